/-
  Proved here: what the landed extent's Cut answers of the extents of sound pointers.
  The conditions stand at each theorem.
-/
import Derived.Test.YtmkibjppnlmehaaExtClear
import Derived.Test.YtmkibjppnlmehaaAwake12
namespace Go.Proofs.Ytmkibjppnlmehaa
open Go.RowKit
set_option linter.unusedVariables false
set_option linter.unusedSimpArgs false

set_option maxRecDepth 100000 in
set_option maxHeartbeats 1600000 in
theorem Cut_bad {w : World} {ao : Option Addr} {n cap : Nat} {l : List Int} {k : Int} (hE : EIs w ao n (fromE 0 l)) (hok : ptrsOk l = true) (hk : k < 0 ∨ 96 < k) :
    Calls Try.prog 15 #[.slice ao n cap, .int .i64 k] w fun e w' => e = .returned (.tuple #[.slice none 0 0, .slice none 0 0, .int .i64 1]) ∧ Below w.heap.size w w' := by
  have c := read_any (cap := cap) hE hok
  have HL := Lib.hid (padL_length hok)
  have HI := Lib.hid (iFile HL.out)
  unfold fileV at c
  generalize padL l = F at *
  clear hE hok
  by_cases h0 : k < 0
  · clear hk
    go_enter Try.func15, Try.ntmps15
    go_wp2_with (first | (refine wpList_store_mid rfl 45 (.tmp 7) (.tmp 16) rfl w2.heap.size 0 (ints F).toArray rfl rfl (laidF_there w2 HL.out) HI.out (all_oneCell_toArray (ints_one _)) ?_; have HO := Lib.hid (laidF_own w2 HL.out); generalize World.setCells _ _ _ _ = w3 at *) | (go_at_call 21; refine c.mono ?_; rintro e w2 ⟨rfl, hb⟩; have HB := Lib.hid hb; clear hb))
    go_ret3
    exact ⟨rfl, HB.out.trans (HO.out.2.2.2.mono HB.out.size)⟩
  · have h1 : 96 < k := hk.resolve_left h0
    clear hk
    go_enter Try.func15, Try.ntmps15
    go_wp2_with (first | (refine wpList_store_mid rfl 45 (.tmp 7) (.tmp 16) rfl w2.heap.size 0 (ints F).toArray rfl rfl (laidF_there w2 HL.out) HI.out (all_oneCell_toArray (ints_one _)) ?_; have HO := Lib.hid (laidF_own w2 HL.out); generalize World.setCells _ _ _ _ = w3 at *) | (go_at_call 21; refine c.mono ?_; rintro e w2 ⟨rfl, hb⟩; have HB := Lib.hid hb; clear hb))
    go_ret3
    exact ⟨rfl, HB.out.trans (HO.out.2.2.2.mono HB.out.size)⟩

/-- Both files: the elder, the younger. -/
def Both (w : World) (f1 f2 : Nat) (F1 F2 : List Int) (wr : World) : Prop := OwnV w.heap.size w f1 (ints F1) wr ∧ OwnV w.heap.size w f2 (ints F2) wr ∧ f1 ≠ f2 ∧ F1.length = 96 ∧ F2.length = 96
theorem Both.later {w wr wx : World} {f1 f2 : Nat} {F1 F2 : List Int} (h : Both w f1 f2 F1 F2 wr) (hb : Below wr.heap.size wr wx) : Both w f1 f2 F1 F2 wx :=
  ⟨h.1.later hb (fun e => by have := congrArg List.length e; rw [ints_length, h.2.2.2.1] at this; cases this), h.2.1.later hb (fun e => by have := congrArg List.length e; rw [ints_length, h.2.2.2.2] at this; cases this), h.2.2⟩
theorem Both.made {w w2 : World} {G : List Int} (hb : Below w.heap.size w w2) (hG : G.length = 96) : OwnV w.heap.size w w2.heap.size (ints G) ((w2.alloc (.cells zcFile 45)).setCells w2.heap.size 0 (ints G)) := by
  have h := laidF_own w2 hG
  exact ⟨h.1, h.2.1, hb.size, hb.trans (h.2.2.2.mono hb.size)⟩
theorem Both.clear2 {w wr : World} {f1 f2 off len cap : Nat} {F1 F2 : List Int} (h : Both w f1 f2 F1 F2 wr) (hfit : off + len ≤ 96) (ty : TypeId) :
    ∃ w', (Builtin.clear_ #[22] ty #[.slice (some ⟨f2, off, none⟩) len cap]).run Try.prog wr = .ok (.tuple #[]) w' ∧ Both w f1 f2 F1 (lay F2 off (List.replicate len 0)) w' := by
  obtain ⟨w', h1, h2, h3⟩ := clear_own (cap := cap) h.2.1 (by rw [h.2.2.2.2]; exact hfit) ty
  exact ⟨w', h1, h.1.other h3 h2.2.2.2 h.2.2.1, h2, h.2.2.1, h.2.2.2.1, by rw [lay_length]; exact h.2.2.2.2⟩
theorem Both.clear1 {w wr : World} {f1 f2 off len cap : Nat} {F1 F2 : List Int} (h : Both w f1 f2 F1 F2 wr) (hfit : off + len ≤ 96) (ty : TypeId) :
    ∃ w', (Builtin.clear_ #[22] ty #[.slice (some ⟨f1, off, none⟩) len cap]).run Try.prog wr = .ok (.tuple #[]) w' ∧ Both w f1 f2 (lay F1 off (List.replicate len 0)) F2 w' := by
  obtain ⟨w', h1, h2, h3⟩ := clear_own (cap := cap) h.1 (by rw [h.2.2.2.1]; exact hfit) ty
  exact ⟨w', h1, h2, h.2.1.other h3 h2.2.2.2 (Ne.symm h.2.2.1), h.2.2.1, by rw [lay_length]; exact h.2.2.2.1, h.2.2.2.2⟩
theorem Both.clear0 {w wr : World} {f1 f2 cap : Nat} {F1 F2 : List Int} {ao : Option Addr} (h : Both w f1 f2 F1 F2 wr) (ty : TypeId) :
    ∃ w', (Builtin.clear_ #[22] ty #[.slice ao 0 cap]).run Try.prog wr = .ok (.tuple #[]) w' ∧ Both w f1 f2 F1 F2 w' := ⟨wr, clear_none wr ty ao cap, h⟩

set_option maxRecDepth 100000 in
set_option maxHeartbeats 6400000 in
theorem Cut_any {w : World} {ao : Option Addr} {n cap k : Nat} {l : List Int} (hE : EIs w ao n (fromE 0 l)) (hok : ptrsOk l = true) (hk : k < 96) :
    Calls Try.prog 15 #[.slice ao n cap, .int .i64 (k : Int)] w fun e w' => ∃ v rv, e = .returned (.tuple #[v, rv, .int .i64 0]) ∧ OutE w' w.heap.size v ((padL l).take k) ∧ OutR w' w.heap.size rv (fromE 0 (restF (padL l) k)) ∧ Below w.heap.size w w' := by
  have c := read_any (cap := cap) hE hok
  have HL := Lib.hid (padL_length hok)
  have HAP : Hid (apartL (padL l) = true) := Lib.hid (by have := padL_ok hok; unfold ptrsOk at this; rw [Bool.and_eq_true] at this; exact this.2)
  unfold fileV at c
  generalize padL l = F at *
  have HI := Lib.hid (iFile HL.out)
  have HL1 := Lib.hid (firstF_length HL.out (Nat.le_of_lt hk))
  have HL2 := Lib.hid (restF_length HL.out (Nat.le_of_lt hk))
  have HI1 := Lib.hid (iFile HL1.out)
  have HI2 := Lib.hid (iFile HL2.out)
  have HA1 := Lib.hid (first_apart HAP.out k)
  have HA2 := Lib.hid (rest_apart HAP.out k)
  have HKK := Lib.hid hk
  have k1 : (k : Int) < 96 := by omega
  have k2 : ¬ (96 : Int) < (k : Int) := by omega
  have k3 : (k : Int) ≤ 96 := by omega
  clear hE hok
  go_enter Try.func15, Try.ntmps15
  go_wp2_with (first
    | (go_at_call 17; refine (extents_any w6 HL2.out HA2.out).mono ?_; rintro e w8 ⟨v, n8, vs8, rfl, ho, hc, hb⟩; obtain ⟨ao8, c8, rfl, he⟩ := (show OutE w8 w6.heap.size v (restF F k) from ⟨n8, vs8, ho, hc⟩).out (by rw [HL2.out]; decide); have HE8 := Lib.hid he; have HO8 := Lib.hid (HO6.out.later hb); clear ho hc he hb)
    | (refine wpList_load_mid rfl 45 (.tmp 9) rfl w3.heap.size 0 rfl (ints (restF F k)) _ (own_range HO6.out.2.1) uFile rfl HI2.out ?_)
    | (refine wp_clear rfl (.tmp 30) 22 rfl _ rfl _ (HO5.out.clear1 (off := k) (len := 96 - k) (cap := 96 - k) (by omega) _) ?_; intro w6 hO6; rw [lay_first HL.out (Nat.le_of_lt HKK.out)] at hO6; have HO6 := Lib.hid hO6; clear hO6)
    | (refine wp_clear rfl (.tmp 28) 22 rfl _ rfl _ (HO4.out.clear2 (off := 0) (len := k) (cap := 96) (by omega) _) ?_; intro w5 hO5; rw [lay_rest HL.out (Nat.le_of_lt HKK.out)] at hO5; have HO5 := Lib.hid hO5; clear hO5)
    | (refine wpList_store_mid rfl 45 (.tmp 9) (.tmp 26) rfl w3.heap.size 0 (ints F).toArray rfl rfl (laidF_there w3 HL.out) HI.out (all_oneCell_toArray (ints_one _)) ?_; have HO4 := Lib.hid (show Both w w2.heap.size w3.heap.size F F _ from ⟨HO3.out.later (laidF_own w3 HL.out).2.2.2 (fun e => by have := congrArg List.length e; rw [ints_length, HL.out] at this; cases this), Both.made HB3.out HL.out, Nat.ne_of_lt HLT.out, HL.out, HL.out⟩); generalize World.setCells _ _ _ _ = w4 at *)
    | (refine wpList_load_mid rfl 45 (.tmp 7) rfl w2.heap.size 0 rfl (ints F) _ (own_range HO3.out) uFile rfl HI.out ?_)
    | (refine wpList_store_mid rfl 45 (.tmp 7) (.tmp 16) rfl w2.heap.size 0 (ints F).toArray rfl rfl (laidF_there w2 HL.out) HI.out (all_oneCell_toArray (ints_one _)) ?_; have HO3 := Lib.hid (Both.made HB.out HL.out); generalize World.setCells _ _ _ _ = w3 at *; have HB3 := Lib.hid HO3.out.2.2.2; have HLT : Hid (w2.heap.size < w3.heap.size) := Lib.hid (World.block_lt_of_cell? _ _ ((file_of_own HO3.out HL.out).cell (k := 0) (by decide))))
    | (go_at_call 21; refine c.mono ?_; rintro e w2 ⟨rfl, hb⟩; have HB := Lib.hid hb; clear hb))
  have HXL : Hid ((fromE 0 (restF F k)).length ≤ 96) := Lib.hid (by have := from_le (restF F k) 0; have := HL2.out; omega)
  have HS8 : Hid (w.heap.size ≤ w8.heap.size) := Lib.hid (by
    have h1 := HO8.out.1.2.2.2
    exact h1.size)
  obtain ⟨xs, hxs⟩ : ∃ xs, fromE 0 (restF F k) = xs := ⟨_, rfl⟩
  have HXS := Lib.hid hxs
  rw [hxs] at HE8 HXL ⊢
  clear hxs
  obtain ⟨m, hm⟩ : ∃ m, xs.length = m := ⟨_, rfl⟩
  have HM := Lib.hid hm
  rw [hm] at HE8 HXL ⊢
  clear hm
  have hm96 : (m : Int) ≤ 96 := by have := HXL.out; omega
  go_loopw [10, 34] (fun rv iv wr => ∃ (i : Nat) (vs : List Value), iv = .int .i64 (i : Int) ∧ i ≤ m ∧ Hid (wr.ownsRow w8.heap.size 40 1 rv i vs) ∧ Hid (RunsX vs (xs.take i)) ∧ Hid (Below w8.heap.size w8 wr)) (fun _ iv _ => m - (intOf iv).toNat)
  case atStart => exact ⟨0, [], rfl, Nat.zero_le _, Lib.hid (owns_nil_r _ _ _ _), Lib.hid RunsX.nil, Lib.hid (Below.refl _ _)⟩
  case round =>
    obtain ⟨i, vs, rfl, hi, HO, HRX, HBW⟩ := hrel
    by_cases hlt : i < m
    · as_aux_lemma =>
      obtain ⟨b, off, x, p, q, rfl, hx, hmem, c1, c2, f1, f2⟩ := (HE8.out.later HBW.out).at hlt
      have HP := Lib.hid f1
      have HQ := Lib.hid f2
      have HT : Hid (xs.take (i + 1) = xs.take i ++ [x]) := Lib.hid (by rw [List.take_add_one, hx]; rfl)
      have i1 : (i : Int) < (m : Int) := by omega
      have HSZ : Hid (w8.heap.size ≤ wr.heap.size) := Lib.hid HBW.out.size
      have HI96 : Hid (i + 1 ≤ 100000) := Lib.hid (by omega)
      clear hx hmem f1 f2 k1 k2 k3 hk
      go_wp2_with (first
        | (at_builtin; refine wp_append_r elemCR rfl (.tmp 38) (.tmp 41) rfl w8.heap.size i _ _ rfl ((owns_later_r HO.out HB5.out).alloc _) ⟨w5.heap.size, 0, none⟩ 1 1 [.complex .f64 p q] rfl rfl (news_r w5 [.complex .f64 p q] _) (fun u hu => by rw [List.mem_singleton.1 hu]; rfl) HI96.out (by rw [World.size_alloc]; have := HSZ.out; have := HB5.out.size; omega) ?_; intro v6 w6b hown6 hg6 hb6; have HO6b := Lib.hid hown6; have HB6 := Lib.hid (((HBW.out.trans (HB5.out.mono HSZ.out)).alloc (Nat.le_trans HSZ.out HB5.out.size) _).trans hb6); clear hown6 hg6 hb6)
        | (refine wpList_store_mid rfl 49 (.tmp 12) (.tmp 37) rfl wr.heap.size 0 #[.int .i64 x.a, .complex .f64 p q] rfl rfl (laidX_there wr) (iExt _ _ _) (pExt _ _ _) ?_; have e2 := laidX_run wr x.a p q; have HB5 := Lib.hid (laidX_below wr x.a p q); unfold laidX at e2 HB5; generalize World.setCells _ _ _ _ = w5 at *))
      go_roundw
      case rel => exact ⟨i + 1, _, by go_num, by omega, HO6b, Lib.hid (by rw [HT.out]; exact HRX.out.snoc HP.out HQ.out), HB6⟩
      case measure => simp [intOf]; omega
    · have hin : i = m := by omega
      subst hin
      have HO9 := Lib.hid (HO8.out.later HBW.out)
      clear k1 k2 k3 hk
      go_wp2_with (first
        | (go_at_call 17; refine (extents_any wr HL1.out HA1.out).mono ?_; rintro e w10 ⟨v, n8, vs8, rfl, ho, hc, hb⟩; have HO10 := Lib.hid ho; have HC10 := Lib.hid hc; have HB10 := Lib.hid hb; clear ho hc hb)
        | (refine wpList_load_mid rfl 45 (.tmp 7) rfl w2.heap.size 0 rfl (ints (firstF F k)) _ (own_range HO9.out.1) uFile rfl HI1.out ?_))
      go_ret3
      have hsw : w8.heap.size ≤ wr.heap.size := HBW.out.size
      refine ⟨_, _, rfl, ⟨n8, vs8, owns_mono_r HO10.out (Nat.le_trans HS8.out hsw), by rw [← first_from]; exact HC10.out⟩, ⟨vs, ?_, ?_⟩, HO9.out.1.2.2.2.trans (HB10.out.mono (Nat.le_trans HS8.out hsw))⟩
      · rw [HXS.out, HM.out]
        exact owns_mono_r (owns_later_r HO.out HB10.out) HS8.out
      · have h := HRX.out
        rw [List.take_of_length_le (by rw [HM.out]; exact Nat.le_refl _)] at h
        rw [HXS.out]
        exact h

end Go.Proofs.Ytmkibjppnlmehaa
