/-
  Proved here: what the landed extent's Cut answers at the end of a file.
  The conditions stand at each theorem.
-/
import Derived.Test.YtmkibjppnlmehaaExtCut
namespace Go.Proofs.Ytmkibjppnlmehaa
open Go.RowKit
set_option linter.unusedVariables false
set_option linter.unusedSimpArgs false

set_option maxRecDepth 100000 in
set_option maxHeartbeats 6400000 in
theorem Cut_end {w : World} {ao : Option Addr} {n cap : Nat} {l : List Int} (hE : EIs w ao n (fromE 0 l)) (hok : ptrsOk l = true) :
    Calls Try.prog 15 #[.slice ao n cap, .int .i64 96] w fun e w' => ∃ v rv, e = .returned (.tuple #[v, rv, .int .i64 0]) ∧ OutE w' w.heap.size v ((padL l).take 96) ∧ OutR w' w.heap.size rv (fromE 0 (restF (padL l) 96)) ∧ Below w.heap.size w w' := by
  have c := read_any (cap := cap) hE hok
  have HL := Lib.hid (padL_length hok)
  have HAP : Hid (apartL (padL l) = true) := Lib.hid (by have := padL_ok hok; unfold ptrsOk at this; rw [Bool.and_eq_true] at this; exact this.2)
  unfold fileV at c
  generalize padL l = F at *
  have HI := Lib.hid (iFile HL.out)
  have HL1 := Lib.hid (firstF_length HL.out (Nat.le_refl 96))
  have HL2 := Lib.hid (restF_length HL.out (Nat.le_refl 96))
  have HI1 := Lib.hid (iFile HL1.out)
  have HI2 := Lib.hid (iFile HL2.out)
  have HFF : Hid (firstF F 96 = F) := Lib.hid (by unfold firstF; rw [List.take_of_length_le (by rw [HL.out]; exact Nat.le_refl _), Nat.sub_self]; simp)
  have HA1 := Lib.hid (first_apart HAP.out 96)
  have HA2 := Lib.hid (rest_apart HAP.out 96)
  clear hE hok
  go_enter Try.func15, Try.ntmps15
  go_wp2_with (first
    | (go_at_call 17; refine (extents_any w6 HL2.out HA2.out).mono ?_; rintro e w8 ⟨v, n8, vs8, rfl, ho, hc, hb⟩; obtain ⟨ao8, c8, rfl, he⟩ := (show OutE w8 w6.heap.size v (restF F 96) from ⟨n8, vs8, ho, hc⟩).out (by rw [HL2.out]; decide); have HE8 := Lib.hid he; have HO8 := Lib.hid (HO6.out.later hb); clear ho hc he hb)
    | (refine wpList_load_mid rfl 45 (.tmp 9) rfl w3.heap.size 0 rfl (ints (restF F 96)) _ (own_range HO6.out.2.1) uFile rfl HI2.out ?_)
    | (refine wp_clear rfl (.tmp 30) 22 rfl _ rfl _ (HO5.out.clear0 _) ?_; intro w6 hO6; have HO6 : Hid (Both w w2.heap.size w3.heap.size (firstF F 96) (restF F 96) w6) := Lib.hid (by rw [HFF.out]; exact hO6); clear hO6)
    | (refine wp_clear rfl (.tmp 28) 22 rfl _ rfl _ (HO4.out.clear2 (off := 0) (len := 96) (cap := 96) (by omega) _) ?_; intro w5 hO5; rw [lay_rest HL.out (Nat.le_refl 96)] at hO5; have HO5 := Lib.hid hO5; clear hO5)
    | (refine wpList_store_mid rfl 45 (.tmp 9) (.tmp 26) rfl w3.heap.size 0 (ints F).toArray rfl rfl (laidF_there w3 HL.out) HI.out (all_oneCell_toArray (ints_one _)) ?_; have HO4 := Lib.hid (show Both w w2.heap.size w3.heap.size F F _ from ⟨HO3.out.later (laidF_own w3 HL.out).2.2.2 (fun e => by have := congrArg List.length e; rw [ints_length, HL.out] at this; cases this), Both.made HB3.out HL.out, Nat.ne_of_lt HLT.out, HL.out, HL.out⟩); generalize World.setCells _ _ _ _ = w4 at *)
    | (refine wpList_load_mid rfl 45 (.tmp 7) rfl w2.heap.size 0 rfl (ints F) _ (own_range HO3.out) uFile rfl HI.out ?_)
    | (refine wpList_store_mid rfl 45 (.tmp 7) (.tmp 16) rfl w2.heap.size 0 (ints F).toArray rfl rfl (laidF_there w2 HL.out) HI.out (all_oneCell_toArray (ints_one _)) ?_; have HO3 := Lib.hid (Both.made HB.out HL.out); generalize World.setCells _ _ _ _ = w3 at *; have HB3 := Lib.hid HO3.out.2.2.2; have HLT : Hid (w2.heap.size < w3.heap.size) := Lib.hid (World.block_lt_of_cell? _ _ ((file_of_own HO3.out HL.out).cell (k := 0) (by decide))))
    | (go_at_call 21; refine c.mono ?_; rintro e w2 ⟨rfl, hb⟩; have HB := Lib.hid hb; clear hb))
  have HXL : Hid ((fromE 0 (restF F 96)).length ≤ 96) := Lib.hid (by have := from_le (restF F 96) 0; have := HL2.out; omega)
  have HS8 : Hid (w.heap.size ≤ w8.heap.size) := Lib.hid (by
    have h1 := HO8.out.1.2.2.2
    exact h1.size)
  obtain ⟨xs, hxs⟩ : ∃ xs, fromE 0 (restF F 96) = xs := ⟨_, rfl⟩
  have HXS := Lib.hid hxs
  rw [hxs] at HE8 HXL ⊢
  clear hxs
  obtain ⟨m, hm⟩ : ∃ m, xs.length = m := ⟨_, rfl⟩
  have HM := Lib.hid hm
  rw [hm] at HE8 HXL ⊢
  clear hm
  have hm96 : (m : Int) ≤ 96 := by have := HXL.out; omega
  go_loopw [10, 34] (fun rv iv wr => ∃ (i : Nat) (vs : List Value), iv = .int .i64 (i : Int) ∧ i ≤ m ∧ Hid (wr.ownsRow w8.heap.size 40 1 rv i vs) ∧ Hid (RunsX vs (xs.take i)) ∧ Hid (Below w8.heap.size w8 wr)) (fun _ iv _ => m - (intOf iv).toNat)
  case atStart => exact ⟨0, [], rfl, Nat.zero_le _, Lib.hid (owns_nil_r _ _ _ _), Lib.hid RunsX.nil, Lib.hid (Below.refl _ _)⟩
  case round =>
    obtain ⟨i, vs, rfl, hi, HO, HRX, HBW⟩ := hrel
    by_cases hlt : i < m
    · as_aux_lemma =>
      obtain ⟨b, off, x, p, q, rfl, hx, hmem, c1, c2, f1, f2⟩ := (HE8.out.later HBW.out).at hlt
      have HP := Lib.hid f1
      have HQ := Lib.hid f2
      have HT : Hid (xs.take (i + 1) = xs.take i ++ [x]) := Lib.hid (by rw [List.take_add_one, hx]; rfl)
      have i1 : (i : Int) < (m : Int) := by omega
      have HSZ : Hid (w8.heap.size ≤ wr.heap.size) := Lib.hid HBW.out.size
      have HI96 : Hid (i + 1 ≤ 100000) := Lib.hid (by omega)
      clear hx hmem f1 f2
      go_wp2_with (first
        | (at_builtin; refine wp_append_r elemCR rfl (.tmp 38) (.tmp 41) rfl w8.heap.size i _ _ rfl ((owns_later_r HO.out HB5.out).alloc _) ⟨w5.heap.size, 0, none⟩ 1 1 [.complex .f64 p q] rfl rfl (news_r w5 [.complex .f64 p q] _) (fun u hu => by rw [List.mem_singleton.1 hu]; rfl) HI96.out (by rw [World.size_alloc]; have := HSZ.out; have := HB5.out.size; omega) ?_; intro v6 w6b hown6 hg6 hb6; have HO6b := Lib.hid hown6; have HB6 := Lib.hid (((HBW.out.trans (HB5.out.mono HSZ.out)).alloc (Nat.le_trans HSZ.out HB5.out.size) _).trans hb6); clear hown6 hg6 hb6)
        | (refine wpList_store_mid rfl 49 (.tmp 12) (.tmp 37) rfl wr.heap.size 0 #[.int .i64 x.a, .complex .f64 p q] rfl rfl (laidX_there wr) (iExt _ _ _) (pExt _ _ _) ?_; have e2 := laidX_run wr x.a p q; have HB5 := Lib.hid (laidX_below wr x.a p q); unfold laidX at e2 HB5; generalize World.setCells _ _ _ _ = w5 at *))
      go_roundw
      case rel => exact ⟨i + 1, _, by go_num, by omega, HO6b, Lib.hid (by rw [HT.out]; exact HRX.out.snoc HP.out HQ.out), HB6⟩
      case measure => simp [intOf]; omega
    · have hin : i = m := by omega
      subst hin
      have HO9 := Lib.hid (HO8.out.later HBW.out)
      go_wp2_with (first
        | (go_at_call 17; refine (extents_any wr HL1.out HA1.out).mono ?_; rintro e w10 ⟨v, n8, vs8, rfl, ho, hc, hb⟩; have HO10 := Lib.hid ho; have HC10 := Lib.hid hc; have HB10 := Lib.hid hb; clear ho hc hb)
        | (refine wpList_load_mid rfl 45 (.tmp 7) rfl w2.heap.size 0 rfl (ints (firstF F 96)) _ (own_range HO9.out.1) uFile rfl HI1.out ?_))
      go_ret3
      have hsw : w8.heap.size ≤ wr.heap.size := HBW.out.size
      refine ⟨_, _, rfl, ⟨n8, vs8, owns_mono_r HO10.out (Nat.le_trans HS8.out hsw), by rw [← first_from]; exact HC10.out⟩, ⟨vs, ?_, ?_⟩, HO9.out.1.2.2.2.trans (HB10.out.mono (Nat.le_trans HS8.out hsw))⟩
      · rw [HXS.out, HM.out]
        exact owns_mono_r (owns_later_r HO.out HB10.out) HS8.out
      · have h := HRX.out
        rw [List.take_of_length_le (by rw [HM.out]; exact Nat.le_refl _)] at h
        rw [HXS.out]
        exact h

theorem Cut_all {w : World} {ao : Option Addr} {n cap k : Nat} {l : List Int} (hE : EIs w ao n (fromE 0 l)) (hok : ptrsOk l = true) (hk : k ≤ 96) :
    Calls Try.prog 15 #[.slice ao n cap, .int .i64 (k : Int)] w fun e w' => ∃ v rv, e = .returned (.tuple #[v, rv, .int .i64 0]) ∧ OutE w' w.heap.size v ((padL l).take k) ∧ OutR w' w.heap.size rv (fromE 0 (restF (padL l) k)) ∧ Below w.heap.size w w' := by
  by_cases h : k < 96
  · exact Cut_any hE hok h
  · obtain rfl : k = 96 := by omega
    exact Cut_end hE hok

/-! ### The halves of pointers -/

theorem take_ok {F : List Int} (h : ptrsOk F = true) (k : Nat) : ptrsOk (F.take k) = true := by
  unfold ptrsOk at h ⊢
  rw [Bool.and_eq_true, decide_eq_true_eq] at h ⊢
  refine ⟨by rw [List.length_take]; omega, ?_⟩
  have := h.2
  rw [← List.take_append_drop k F] at this
  exact (apart_append this).1
theorem rest_ok {F : List Int} (h : ptrsOk F = true) (hl : F.length = 96) {k : Nat} (hk : k ≤ 96) : ptrsOk (restF F k) = true := by
  unfold ptrsOk
  rw [Bool.and_eq_true, decide_eq_true_eq, restF_length hl hk]
  unfold ptrsOk at h
  rw [Bool.and_eq_true] at h
  exact ⟨Nat.le_refl _, rest_apart h.2 k⟩
theorem half_trim (l : List Int) (k : Nat) (hl : l.length ≤ 96) (hk : k ≤ 96) : trimL ((padL l).take k) = trimL (l.take (min k l.length)) := by
  unfold padL
  rw [List.take_append, List.take_replicate, trim_append_zeros]
  by_cases h : k ≤ l.length
  · rw [Nat.min_eq_left h]
  · rw [Nat.min_eq_right (by omega), List.take_of_length_le (by omega), List.take_length]
theorem half_nz (l : List Int) (k : Nat) : nzL ((padL l).drop k) = nzL (l.drop (min k l.length)) := by
  unfold padL
  rw [List.drop_append, List.drop_replicate, nz_append, nz_zeros, List.append_nil]
  by_cases h : k ≤ l.length
  · rw [Nat.min_eq_left h]
  · rw [Nat.min_eq_right (by omega), List.drop_of_length_le (by omega), List.drop_length]
theorem nz_step {l : List Int} {i : Nat} (h : i < l.length) : (nzL (l.drop i)).length = (if l.getD i 0 = 0 then 0 else 1) + (nzL (l.drop (i + 1))).length := by
  rw [drop_cons h]
  unfold nzL
  by_cases h0 : l.getD i 0 = 0
  · rw [if_pos h0, h0, List.filter_cons_of_neg (by decide), Nat.zero_add]
  · rw [if_neg h0, List.filter_cons_of_pos (by unfold nzB; exact decide_eq_true h0), List.length_cons, Nat.add_comm]
theorem nz_le (l : List Int) : (nzL l).length ≤ l.length := List.length_filter_le _ _
theorem sum_step {xs : List EX} {i : Nat} {x : EX} (h : xs[i]? = some x) : sumE (xs.drop i) = x.c + sumE (xs.drop (i + 1)) := by
  obtain ⟨hi, rfl⟩ := List.getElem?_eq_some_iff.1 h
  rw [List.drop_eq_getElem_cons hi]
  unfold sumE
  rw [List.map_cons, List.sum_cons]
theorem sum_nonneg : ∀ {xs : List EX}, (∀ x ∈ xs, 1 ≤ x.c) → 0 ≤ sumE xs
  | [], _ => by decide
  | x :: r, h => by
    have h1 := h x (List.mem_cons_self ..)
    have h2 := sum_nonneg (xs := r) (fun y hy => h y (List.mem_cons_of_mem _ hy))
    unfold sumE at h2 ⊢
    rw [List.map_cons, List.sum_cons]
    omega

/-- Runs in memory. -/
def RIs (w : World) (ao : Option Addr) (xs : List EX) : Prop := ∀ i, i < xs.length → ∃ b off x p q, ao = some ⟨b, off, none⟩ ∧ xs[i]? = some x ∧ w.cell? ⟨b, off + i, none⟩ = some (.complex .f64 p q) ∧ FI p x.f ∧ FI q x.c
theorem RIs.later {w w' : World} {ao : Option Addr} {xs : List EX} (h : RIs w ao xs) (hb : Below w.heap.size w w') : RIs w' ao xs := fun i hi => by
  obtain ⟨b, off, x, p, q, h1, h2, h3, h4⟩ := h i hi
  exact ⟨b, off, x, p, q, h1, h2, cell_later hb h3, h4⟩
theorem OutR.ris {w : World} {base : Nat} {v : Value} {xs : List EX} (h : OutR w base v xs) : ∃ ao cap, v = .slice ao xs.length cap ∧ RIs w ao xs := by
  obtain ⟨vs, ho, hr⟩ := h
  rcases ho.2 with ⟨hv, h0⟩ | ⟨g, cap, cur, hv, _⟩
  · exact ⟨none, 0, by rw [hv, h0], fun i hi => by omega⟩
  · refine ⟨some ⟨g, 0, none⟩, cap, hv, fun i hi => ?_⟩
    have hx : xs[i]? = some xs[i] := List.getElem?_eq_getElem hi
    obtain ⟨u, h2, p, q, rfl, h3, h4⟩ := hr.2 i _ hx
    have e1 := ho.cells (g := g) (by rw [hv]; rfl) _ _ h2
    rw [Go.WideShapes.add_plain] at e1
    exact ⟨g, 0, xs[i], p, q, rfl, hx, e1, h3, h4⟩

end Go.Proofs.Ytmkibjppnlmehaa
