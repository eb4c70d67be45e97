/-
  Proved here: what the landed extent's To, Sound and Find answer of the extents of sound pointers.
  The conditions stand at each theorem.
-/
import Derived.Test.YtmgmlebkmdpddaaExtRead
import Derived.Test.YtmgmlebkmdpddaaTrSplit
namespace Go.Proofs.Ytmgmlebkmdpddaa
open Go.RowKit
set_option linter.unusedVariables false
set_option linter.unusedSimpArgs false

theorem laidF_there (w : World) {G : List Int} (h : G.length = 96) : (w.alloc (.cells Try.zeroCells59 59)).there w.heap.size 0 (ints G).toArray.size := fun j hj => by
  rw [List.size_toArray, ints_length, h] at hj
  have := (made_file w).1 j (.int .i64 0) (by unfold ints; rw [List.getElem?_map, List.getElem?_replicate, if_pos hj]; rfl)
  rw [Nat.zero_add, this]
  exact ⟨rfl, (made_file w).2.1 j⟩
theorem laidF_own (w : World) {G : List Int} (h : G.length = 96) : OwnV w.heap.size w w.heap.size (ints G) ((w.alloc (.cells Try.zeroCells59 59)).setCells w.heap.size 0 (ints G)) := by
  have hr := World.rangeAt_setCells_same _ w.heap.size 0 (ints G) (by have := laidF_there w h; rwa [List.size_toArray] at this)
  refine ⟨fun j x hj => ?_, fun j => ?_, Nat.le_refl _, below_cells _ (Nat.le_refl _) _ _ _ ((Below.refl _ _).alloc (Nat.le_refl _) _)⟩
  · have := hr j x hj
    rwa [Nat.zero_add] at this
  · rw [World.frozen?_setCells]
    exact (made_file w).2.1 j
theorem trim_pad (l : List Int) : trimL (padL l) = trimL l := trim_append_zeros _ _
theorem trim_mem {l : List Int} {z : Int} (h : z ∈ trimL l) : z ∈ l := by
  obtain ⟨n, hn⟩ := trim_prefix l
  rw [hn]
  exact List.mem_append_left _ h

set_option maxRecDepth 100000 in
set_option maxHeartbeats 3200000 in
theorem To_any {w : World} {ao : Option Addr} {n cap : Nat} {l : List Int} (hE : EIs w ao n (fromE 0 l)) (hok : ptrsOk l = true) :
    Calls Try.prog 10 #[.slice ao n cap] w fun e w' => ∃ v, e = .returned (.tuple #[v, .int .i64 0]) ∧ FreshI w' w.heap.size v (trimL l) ∧ Below w.heap.size w w' := by
  have c := read_any (cap := cap) hE hok
  have HL := Lib.hid (padL_length hok)
  have HI := Lib.hid (iFile HL.out)
  have HZ : Hid (∀ z ∈ trimL l, I64 z) := Lib.hid (fun z hz => ptr_i64 hok (trim_mem hz))
  have HTP := Lib.hid (trim_pad l)
  unfold fileV at c
  generalize padL l = F at *
  clear hE hok
  go_enter Try.func10, Try.ntmps10
  go_wp2_with (first | (refine wpList_store_mid rfl 59 (.tmp 4) (.tmp 10) rfl w2.heap.size 0 (ints F).toArray rfl rfl (laidF_there w2 HL.out) HI.out (all_oneCell_toArray (ints_one _)) ?_; have HO := Lib.hid (laidF_own w2 HL.out); generalize World.setCells _ _ _ _ = w3 at *) | (go_at_call 18; refine c.mono ?_; rintro e w2 ⟨rfl, hb⟩; have HB := Lib.hid hb; clear hb))
  go_loopw [6] (fun iv wr => ∃ k : Nat, iv = .int .i64 (k : Int) ∧ k ≤ 96 ∧ Hid (trimL (F.take k) = trimL F) ∧ Hid (w3 = wr)) (fun iv _ => (intOf iv).toNat)
  case atStart => exact ⟨96, rfl, Nat.le_refl _, Lib.hid (by rw [List.take_of_length_le (by rw [HL.out]; exact Nat.le_refl _)]), Lib.hid rfl⟩
  case round =>
    obtain ⟨k, rfl, hk, HT, HW⟩ := hrel
    have HD : Hid (trimL (F.take k) = F.take k → FreshI wr w.heap.size (.slice (some ⟨w2.heap.size, 0, none⟩) k 96) (trimL l)) := Lib.hid (fun h => by
      have h1 : (trimL l).length = k := by rw [← HTP.out, ← HT.out, h, List.length_take, HL.out]; omega
      have h2 : F.take k = trimL l := by rw [← HTP.out, ← HT.out, h]
      refine ⟨some ⟨w2.heap.size, 0, none⟩, 96, by rw [h1], ?_, Or.inr ⟨_, 0, rfl, HB.out.size⟩⟩
      rw [h1]
      have hr : wr.rangeAt w2.heap.size 0 (ints (trimL l)) := by
        have := own_part (HW.out ▸ HO.out) 0 k
        rwa [List.drop_zero, h2] at this
      have := iarg_of_range (cap := 96) hr HZ.out (by omega) (by omega)
      rwa [h1] at this)
    have HBW : Hid (Below w.heap.size w wr) := Lib.hid (by rw [← HW.out]; exact HB.out.trans (HO.out.2.2.2.mono HB.out.size))
    by_cases h0 : k = 0
    · subst h0
      go_wp2_with fail
      go_ret2
      exact ⟨_, rfl, HD.out rfl, HBW.out⟩
    · obtain ⟨q, rfl⟩ : ∃ q, k = q + 1 := ⟨k - 1, by omega⟩
      have d1 : wr.cell? ⟨w2.heap.size, q, none⟩ = some (.int .i64 (F.getD q 0)) := (file_of_own (HW.out ▸ HO.out) HL.out).cell (by omega)
      have hx : F[q]? = some (F.getD q 0) := by rw [List.getD_eq_getElem?_getD, List.getElem?_eq_getElem (by rw [HL.out]; omega)]; rfl
      obtain ⟨x, hx2⟩ : ∃ x, F.getD q 0 = x := ⟨_, rfl⟩
      rw [hx2] at d1 hx
      have HX := Lib.hid hx
      have k1 : (0 : Int) < ((q + 1 : Nat) : Int) := by omega
      have k2 : (q : Int) < 96 := by omega
      have k3 : (q : Int) + 1 ≤ 96 := by omega
      have k4 : 0 ≤ (q : Int) + 1 := by omega
      clear hx hx2
      by_cases hx0 : x = 0
      · subst hx0
        have HT2 : Hid (trimL (F.take q) = trimL F) := Lib.hid (by rw [← trim_take_zero (by rw [HL.out]; omega) HX.out]; exact HT.out)
        go_wp2_with fail
        go_roundw
        case rel => exact ⟨q, by first | rfl | go_num, by omega, HT2, HW⟩
        case measure => simp [intOf]; try omega
      · have HE : Hid (trimL (F.take (q + 1)) = F.take (q + 1)) := Lib.hid (by
          rw [List.take_add_one, HX.out]
          exact trim_last hx0)
        go_wp2_with fail
        go_ret2
        exact ⟨_, rfl, HD.out HE.out, HBW.out⟩

end Go.Proofs.Ytmgmlebkmdpddaa

