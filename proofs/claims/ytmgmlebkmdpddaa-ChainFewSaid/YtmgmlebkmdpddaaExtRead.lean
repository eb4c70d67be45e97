/-
  Proved here: what the landed extent's read answers of the extents of sound pointers.
  The conditions stand at each theorem.
-/
import Derived.Test.YtmgmlebkmdpddaaExtFrom
import Derived.Test.YtmgmlebkmdpddaaExtEq
import Derived.Laws.ResultCell
namespace Go.Proofs.Ytmgmlebkmdpddaa
open Go.RowKit
set_option linter.unusedVariables false
set_option linter.unusedSimpArgs false

/-- All 96 pointers. -/
def padL (l : List Int) : List Int := l ++ List.replicate (96 - l.length) 0
theorem padL_length {l : List Int} (h : ptrsOk l = true) : (padL l).length = 96 := by
  unfold ptrsOk at h
  rw [Bool.and_eq_true, decide_eq_true_eq] at h
  unfold padL
  rw [List.length_append, List.length_replicate]
  omega
theorem padL_from (l : List Int) : fromE 0 (padL l) = fromE 0 l := from_append_zeros _ _ _
theorem padL_ok {l : List Int} (h : ptrsOk l = true) : ptrsOk (padL l) = true := by
  have h' := h
  unfold ptrsOk at h'
  rw [Bool.and_eq_true, decide_eq_true_eq] at h'
  unfold padL
  rw [ptrs_zeros (by omega), h]
theorem padL_all {l : List Int} (h : ptrsOk l = true) : allE (fromE 0 l) 96 = padL l := by
  unfold ptrsOk at h
  rw [Bool.and_eq_true, decide_eq_true_eq] at h
  exact all_from l 96 h.1

theorem OwnV.other {base g f : Nat} {w0 wr wx : World} {xs : List Value} (h : OwnV base w0 g xs wr) (hk : Keeps f wr wx) (hb : Below base w0 wx) (hne : g ≠ f) : OwnV base w0 g xs wx :=
  ⟨fun j x hj => by rw [hk.cell (p := ⟨g, j, none⟩) hne]; exact h.1 j x hj, fun j => by
    have := h.2.1 j
    unfold World.frozen? at this ⊢
    rw [hk.2 g hne]
    exact this, h.2.2.1, hb⟩

theorem made_two (w : World) : OwnV w.heap.size w w.heap.size (ints (List.replicate 96 0)) ((w.alloc (.cells Try.zeroCells59 59)).alloc (.cells Try.zeroCells59 59)) ∧ OwnV w.heap.size w (w.heap.size + 1) (ints (allE [] 96)) ((w.alloc (.cells Try.zeroCells59 59)).alloc (.cells Try.zeroCells59 59)) := by
  refine ⟨(made_file w).later ((Below.refl _ _).alloc (Nat.le_refl _) _) (by simp [ints]), ?_⟩
  have h := made_file (w.alloc (.cells Try.zeroCells59 59))
  rw [World.size_alloc] at h
  rw [allE_nil]
  exact ⟨h.1, h.2.1, Nat.le_succ _, ((Below.refl w.heap.size w).alloc (Nat.le_refl _) _).trans (h.2.2.2.mono (Nat.le_succ _))⟩

theorem ptr_i64 {l : List Int} (h : ptrsOk l = true) {z : Int} (hz : z ∈ l) : I64 z := by
  unfold ptrsOk apartL at h
  rw [Bool.and_eq_true, Bool.and_eq_true, List.all_eq_true] at h
  have := h.2.1 z hz
  unfold okP at this
  simp only [decide_eq_true_eq] at this
  unfold I64
  omega

/-- What stands while extents are read: the result's cells, and the file's. -/
def Reading (w : World) (F : List Int) (wr : World) : Prop :=
  OwnV w.heap.size w w.heap.size (ints (List.replicate 96 0)) wr ∧ OwnV w.heap.size w (w.heap.size + 1) (ints F) wr ∧ F.length = 96

theorem Reading.later {w wr wx : World} {F : List Int} (h : Reading w F wr) (hb : Below wr.heap.size wr wx) : Reading w F wx :=
  ⟨h.1.later hb (by simp [ints]), h.2.1.later hb (fun e => by have := congrArg List.length e; rw [ints_length, h.2.2] at this; cases this), h.2.2⟩
theorem Reading.store {w wr : World} {F : List Int} {k : Nat} {x : Int} (h : Reading w F wr) (hk : k < 96) : Reading w (F.set k x) (wr.setCell ⟨w.heap.size + 1, k, none⟩ (.int .i64 x)) := by
  have h2 := h.2.1.store (k := k) (y := .int .i64 x) (by rw [ints_length, h.2.2]; exact hk)
  refine ⟨h.1.other (Keeps.set wr ⟨w.heap.size + 1, k, none⟩ _) h2.2.2.2 (by show w.heap.size ≠ w.heap.size + 1; omega), ?_, by rw [List.length_set]; exact h.2.2⟩
  rw [ints_set]
  exact h2
theorem Reading.size {w wr : World} {F : List Int} (h : Reading w F wr) : w.heap.size + 1 < wr.heap.size := by
  have := h.2.1.1 0 (.int .i64 (F.getD 0 0)) (ints_get (by rw [List.getD_eq_getElem?_getD, List.getElem?_eq_getElem (by rw [h.2.2]; decide)]; rfl))
  exact World.block_lt_of_cell? _ _ this

theorem w64 {x y : Int} (h : x = y) (h0 : -100000 ≤ y) (h1 : y ≤ 100000) : wrap64 x = y := by
  subst h
  unfold wrap64
  omega

/-- An extent in a variable of its own. -/
def laidX (w : World) (a : Int) (p q : Nat) : World := (w.alloc (.cells #[.int .i64 0, .complex .f64 0 0] 33)).setCells w.heap.size 0 (#[Value.int .i64 a, Value.complex .f64 p q] : Array Value).toList
theorem laidX_there (w : World) : (w.alloc (.cells #[.int .i64 0, .complex .f64 0 0] 33)).there w.heap.size 0 2 := fun j hj => by
  refine ⟨?_, ?_⟩
  · rw [Nat.zero_add, World.cell?_alloc_new]
    match j, hj with
    | 0, _ => rfl
    | 1, _ => rfl
  · rw [World.frozen?_alloc_mark]; simp
theorem laidX_range (w : World) (a : Int) (p q : Nat) : (laidX w a p q).rangeAt w.heap.size 0 [.int .i64 a, .complex .f64 p q] := World.rangeAt_setCells_same _ _ _ _ (laidX_there w)
theorem laidX_at (w : World) (a : Int) (p q : Nat) : (laidX w a p q).cell? ⟨w.heap.size, 0, none⟩ = some (.int .i64 a) := laidX_range w a p q 0 _ rfl
theorem laidX_run (w : World) (a : Int) (p q : Nat) : (laidX w a p q).cell? ⟨w.heap.size, 1, none⟩ = some (.complex .f64 p q) := laidX_range w a p q 1 _ rfl
theorem laidX_below (w : World) (a : Int) (p q : Nat) : Below w.heap.size w (laidX w a p q) := below_cells _ (Nat.le_refl _) _ _ _ ((Below.refl _ _).alloc (Nat.le_refl _) _)
theorem iExt (a : Int) (p q : Nat) : (Try.prog.info? 33).map (·.size) = some (#[Value.int .i64 a, Value.complex .f64 p q] : Array Value).size := by
  show _ = some 2
  kernel_rfl
theorem pExt (a : Int) (p q : Nat) : (#[Value.int .i64 a, Value.complex .f64 p q] : Array Value).all (·.oneCell') = true := all_oneCell_toArray (cs := [Value.int .i64 a, Value.complex .f64 p q]) (by simp [Value.oneCell'])

theorem reading_there {w wr : World} {F G : List Int} (h : Reading w F wr) (hG : G.length = 96) : wr.there w.heap.size 0 (ints G).toArray.size := fun j hj => by
  rw [List.size_toArray, ints_length, hG] at hj
  have := h.1.1 j (.int .i64 0) (by unfold ints; rw [List.getElem?_map, List.getElem?_replicate, if_pos hj]; rfl)
  rw [Nat.zero_add, this]
  exact ⟨rfl, h.1.2.1 j⟩

set_option maxRecDepth 100000 in
set_option maxHeartbeats 6400000 in
theorem read_any {w : World} {ao : Option Addr} {n cap : Nat} {l : List Int} (hE : EIs w ao n (fromE 0 l)) (hok : ptrsOk l = true) :
    Calls Try.prog 18 #[.slice ao n cap] w fun e w' => e = .returned (.tuple #[fileV (padL l), .bool true]) ∧ Below w.heap.size w w' := by
  have HE := Lib.hid hE
  have HOK := Lib.hid hok
  have hn : n ≤ 96 := by have h1 := hE.1; have h2 := (from_sound12 hok).1; omega
  have HS := Lib.hid (from_sound12 hok)
  have HPW := Lib.hid (chain_pair (fromE 0 l) (fun g hg => (HS.out.2.1 g hg).1) HS.out.2.2.1)
  have HR0 : Hid (Reading w (allE [] 96) ((w.alloc (.cells Try.zeroCells59 59)).alloc (.cells Try.zeroCells59 59))) := Lib.hid ⟨(made_two w).1, (made_two w).2, allE_length _ _⟩
  have hn1 : (n : Int) ≤ 96 := by omega
  clear hE hok
  go_enter Try.func18, Try.ntmps18
  go_wp2_with fail
  go_loopw [19] (fun iv wr => ∃ i : Nat, iv = .int .i64 (i : Int) ∧ i ≤ n ∧ Hid (Reading w (allE ((fromE 0 l).take i) 96) wr)) (fun iv _ => n - (intOf iv).toNat)
  case atStart => exact ⟨0, rfl, Nat.zero_le _, HR0⟩
  case round =>
    obtain ⟨i, rfl, hi, HR⟩ := hrel
    by_cases hlt : i < n
    · obtain ⟨b, off, x, p, q, rfl, hx, hmem, c1, c2, f1, f2⟩ := HE.out.at hlt
      obtain ⟨o1, o2, o3, o4, o5⟩ := HS.out.2.1 x hmem
      obtain ⟨xa, xf, xc⟩ := x
      dsimp only at *
      obtain ⟨a, rfl⟩ := Int.eq_ofNat_of_zero_le o4
      obtain ⟨c, rfl⟩ := Int.eq_ofNat_of_zero_le (show 0 ≤ xc by omega)
      have d1 : wr.cell? ⟨b, off + i * 2, none⟩ = some (.int .i64 (a : Int)) := cell_later HR.out.1.2.2.2 c1
      have d2 : wr.cell? ⟨b, off + i * 2 + 1, none⟩ = some (.complex .f64 p q) := cell_later HR.out.1.2.2.2 c2
      have cP := fun W => Parts_any p q xf (c : Int) W f1 f2 (by omega) (by omega) (by omega)
      have i1 : (i : Int) < (n : Int) := by omega
      have i2 : wrap64 (96 - (c : Int)) = 96 - c := by unfold wrap64; omega
      have i3 : (a : Int) ≤ 96 - (c : Int) := by omega
      have HLAY := Lib.hid (lay_extent (l := (fromE 0 l).take i) (e := ⟨(a : Int), xf, (c : Int)⟩) (a := a) (c := c) rfl rfl (by omega) (before_at HPW.out hx))
      have HX := Lib.hid hx
      clear c1 c2 f1 f2 hmem hx
      go_wp2_with (first | (go_at_call 23; refine (cP _).mono ?_; rintro e w3 ⟨rfl, rfl⟩) | (refine wpList_store_mid rfl 33 (.tmp 6) (.tmp 22) rfl wr.heap.size 0 #[.int .i64 (a : Int), .complex .f64 p q] rfl rfl (laidX_there wr) (iExt _ _ _) (pExt _ _ _) ?_; have e1 := laidX_at wr (a : Int) p q; have e2 := laidX_run wr (a : Int) p q; have HB5 := Lib.hid (laidX_below wr (a : Int) p q); unfold laidX at e1 e2 HB5; generalize World.setCells _ _ _ _ = w5 at *; have HR5 := Lib.hid (HR.out.later HB5.out)))
      have hne : wr.heap.size ≠ w.heap.size + 1 := by have := HR.out.size; omega
      obtain ⟨g6, hg6⟩ : ∃ g6, wr.heap.size = g6 := ⟨_, rfl⟩
      rw [hg6] at e1 e2 hne ⊢
      go_loopw [46] (fun kv wr => ∃ (k : Nat) (F1 : List Int), kv = .int .i64 (k : Int) ∧ k ≤ c ∧ Hid (F1 = lay (allE ((fromE 0 l).take i) 96) a (seqI xf k)) ∧ Hid (Reading w F1 wr) ∧ Hid (wr.cell? ⟨g6, 0, none⟩ = some (.int .i64 (a : Int)))) (fun kv _ => c - (intOf kv).toNat)
      case atStart => exact ⟨0, _, rfl, Nat.zero_le _, Lib.hid rfl, HR5, Lib.hid e1⟩
      case round =>
        obtain ⟨k, F1, rfl, hk, HF1, HRK, HE1⟩ := hrel
        clear d1 d2 cP e1 e2 HB5 HR5 HR0 i2 i3
        by_cases hkc : k < c
        · obtain ⟨m, hm⟩ : ∃ m, a + k = m := ⟨_, rfl⟩
          have hm96 : m < 96 := by omega
          have k1 : (k : Int) < (c : Int) := by omega
          have k4 : (m : Int) < 96 := by omega
          have k2 : (a : Int) + (k : Int) = (m : Int) := by omega
          have k3 : -1000 ≤ xf + (k : Int) ∧ xf + (k : Int) ≤ 1000 := by omega
          have k6 : (k : Int) ≤ 1000 := by omega
          have g1 := HE1.out
          have g2 := (file_of_own HRK.out.2.1 HRK.out.2.2).cell hm96
          have g3 := HRK.out.2.1.2.1 m
          have HK2 := Lib.hid (HRK.out.store (x := xf + k) hm96)
          have HF2 : Hid (F1.set m (xf + k) = lay (allE ((fromE 0 l).take i) 96) a (seqI xf (k + 1))) := Lib.hid (by rw [seqI_succ, lay_snoc, seqI_length, hm, HF1.out])
          have HE2 : Hid ((wr.setCell ⟨w.heap.size + 1, m, none⟩ (.int .i64 (xf + k))).cell? ⟨g6, 0, none⟩ = some (.int .i64 (a : Int))) := Lib.hid (by
            rw [World.cell?_setCell_other (h := by intro e; exact hne (congrArg Addr.block e).symm)]
            exact g1)
          generalize F1.getD m 0 = y at g2
          go_wp2_with fail
          go_roundw
          case rel => exact ⟨k + 1, _, by go_num, by omega, HF2, HK2, HE2⟩
          case measure => simp [intOf]; omega
        · as_aux_lemma =>
          have hkc : k = c := by omega
          subst hkc
          rw [HF1.out, HLAY.out] at HRK
          go_wp2_with fail
          go_roundw
          case rel => exact ⟨i + 1, by go_num, by omega, Lib.hid (by rw [List.take_add_one, HX.out]; exact HRK.out)⟩
          case measure => simp [intOf]; omega
    · as_aux_lemma =>
      have hin : i = n := by omega
      subst hin
      have HT : Hid ((fromE 0 l).take i = fromE 0 l) := Lib.hid (List.take_of_length_le (by rw [HE.out.1]; exact Nat.le_refl _))
      rw [HT.out, padL_all HOK.out] at HR
      have HA := Lib.hid (iarg_of_range (cap := 96) (own_range HR.out.2.1) (fun z hz => ptr_i64 (padL_ok HOK.out) hz) (by rw [padL_length HOK.out]; decide) (by rw [padL_length HOK.out]; exact Nat.le_refl _))
      rw [padL_length HOK.out] at HA
      have HP := Lib.hid (padL_length HOK.out)
      have HI := Lib.hid (iFile HP.out)
      go_wp2_with (first | (refine wpList_store_mid rfl 59 (.tmp 2) (.tmp 73) rfl w.heap.size 0 (ints (padL l)).toArray rfl rfl HTH.out HI.out (all_oneCell_toArray (ints_one _)) ?_) | (refine wpList_load_mid rfl 59 (.tmp 4) rfl (w.heap.size + 1) 0 rfl (ints (padL l)) _ HF4.out.2 uFile rfl HI.out ?_) | (go_at_call 27; refine (equalE_true HE3.out (HE.out.later (HR3.out.1.2.2.2))).mono ?_; rintro e w4 ⟨rfl, hb⟩; have HR4 := Lib.hid (HR3.out.later hb); have HF4 := Lib.hid (file_of_own HR4.out.2.1 HP.out); have HTH := Lib.hid (reading_there HR4.out HP.out); clear hb) | (go_at_call 26; refine (From_any _ _ _ _ _ HA.out).mono ?_; rintro e w3 ⟨v, rfl, ho, hb⟩; rw [if_pos (padL_ok HOK.out)] at ho ⊢; obtain ⟨n3, vs, ho, hc⟩ := ho; rw [padL_from] at hc; obtain ⟨ao3, c3, rfl⟩ := owns_shape_r ho; have he := hc.eis ho (by have h1 := ho.1; have h2 := hc.1; have h3 := HE.out.1; omega); obtain rfl : n3 = i := (by have h1 := ho.1; have h2 := hc.1; have h3 := HE.out.1; omega); have HE3 := Lib.hid he; have HB3 := Lib.hid hb; clear ho hc he hb; have HR3 := Lib.hid (HR.out.later HB3.out)))
      have hT : (w4.setCells w.heap.size 0 (ints (padL l))).rangeAt w.heap.size 0 (ints (padL l)) := World.rangeAt_setCells_same _ _ _ _ (by have := HTH.out; rwa [List.size_toArray] at this)
      have hB : Below w.heap.size w (w4.setCells w.heap.size 0 (ints (padL l))) := below_cells _ (Nat.le_refl _) _ _ _ HR4.out.1.2.2.2
      have HB9 := Lib.hid hB
      generalize w4.setCells w.heap.size 0 (ints (padL l)) = w9 at *
      have hL : (loadVar 59 ⟨w.heap.size, 0, none⟩).run Try.prog w9 = .ok (.agg (ints (padL l)).toArray) w9 := run_loadVar_mid w9 w.heap.size 0 59 (ints (padL l)) _ hT uFile rfl HI.out
      clear hB hT
      (try simp only [Exit.inBlock, Exit.then]); refine bodyPost_ret (v := .tuple #[fileV (padL l), .bool true]) (by rw [results_cell_tmp (p := 2) (u := 3) (ty := 59) rfl]; simp [asAddr, hL, fileV]) rfl ?_
      exact ⟨rfl, HB9.out⟩

end Go.Proofs.Ytmgmlebkmdpddaa
