/-
  Proved here: what the landed extent's extents answers of a file that holds sound pointers.
  The conditions stand at each theorem.
-/
import Derived.Test.YtmgmlebkmdpddaaExtStep
import Derived.Test.YtmgmlebkmdpddaaExtMem
import Derived.Test.YtmgmlebkmdpddaaNRun
import Derived.Test.YtmgmlebkmdpddaaTrParts
namespace Go.Proofs.Ytmgmlebkmdpddaa
open Go.RowKit
set_option linter.unusedVariables false
set_option linter.unusedSimpArgs false

/-- The extents that were found so far. -/
def Found (F : List Int) (at_ : Nat) (vs : List Value) (xs : List EX) : Prop := CellsE vs xs ∧ fromE 0 F = xs ++ fromE (at_ : Int) (F.drop at_)

theorem Of_run {a b : Int} (w : World) (h0 : 0 ≤ a) (h1 : 1 ≤ b) (h2 : a + b ≤ 480) (hb : b ≤ 255) :
    Calls Try.prog 44 #[.int .i64 a, .int .i64 b] w fun e w' => ∃ p q, e = .returned (.tuple #[.complex .f64 p q, .int .i64 0]) ∧ FI p a ∧ FI q b ∧ w = w' := by
  have hr : runOk a b = true := decide_eq_true ⟨h0, h1, h2⟩
  refine (Of_any a b w ⟨h0, by omega, by omega, hb⟩).mono ?_
  rintro e w' ⟨v, rfl, hv, rfl⟩
  unfold partA partB at hv
  rw [if_pos hr, if_pos hr] at hv
  obtain ⟨p, q, rfl, h3, h4⟩ := hv
  exact ⟨p, q, by rw [if_pos hr], h3, h4, rfl⟩

theorem Found.length {F : List Int} {a n : Nat} {vs : List Value} {xs : List EX} {w : World} {base : Nat} {e : TypeId} {v : Value} (h : Found F a vs xs) (hl : F.length = 96) (ho : w.ownsRow base e 2 v n vs) : n ≤ 96 := by
  have h1 := ho.1
  have h2 := h.1.1
  have h3 := from_le F 0
  rw [h.2, List.length_append] at h3
  omega
theorem Found.next {F : List Int} {a r s : Nat} {vs : List Value} {xs : List EX} {x c : Int} {p q : Nat} (h : Found F a vs xs) (h1 : fromE (a : Int) (F.drop a) = ⟨a, x, c⟩ :: fromE (r : Int) (F.drop r)) (h2 : fromE (r : Int) (F.drop r) = fromE (s : Int) (F.drop s)) (hp : FI p x) (hq : FI q c) :
    Found F s (vs ++ [.int .i64 (a : Int), .complex .f64 p q]) (xs ++ [⟨a, x, c⟩]) := by
  refine ⟨CellsE.snoc (x := ⟨a, x, c⟩) h.1 hp hq, ?_⟩
  rw [h.2, h1, h2, List.append_assoc]
  rfl
theorem ext_one (i p q : Nat) : ∀ u ∈ [Value.int .i64 (i : Int), Value.complex .f64 p q], u.oneCell' = true := by
  intro u hu
  simp only [List.mem_cons, List.not_mem_nil, or_false] at hu
  rcases hu with rfl | rfl <;> rfl

set_option maxRecDepth 100000 in
set_option maxHeartbeats 3200000 in
theorem extents_any {F : List Int} (w : World) (h : F.length = 96) (ha : apartL F = true) :
    Calls Try.prog 40 #[fileV F] w fun e w' => ∃ v n vs, e = .returned v ∧ w'.ownsRow w.heap.size 33 2 v n vs ∧ CellsE vs (fromE 0 F) ∧ Below w.heap.size w w' := by
  have HF := Lib.hid (file_new w h 59)
  have HA := Lib.hid ha
  have HL := Lib.hid h
  have HI := Lib.hid (iFile h)
  clear h ha
  unfold fileV
  go_enter Try.func40, Try.ntmps40
  go_wp2_with (first | (refine wpList_load_mid rfl 59 (.tmp 1) rfl w.heap.size 0 rfl (ints F) _ HF.out.2 uFile rfl HI.out ?_) | (go_at_call 49; refine (seekL_any HF.out HL.out (Nat.zero_le _)).mono ?_; rintro e w2 ⟨r0, rfl, hr0, hz, hy, hb⟩; have HZ := Lib.hid (lies_skip hr0.1 hz); have HY := Lib.hid hy; have HB := Lib.hid hb; clear hz hy hb))
  go_loopw [3, 5] (fun lv iv wr => ∃ (i n : Nat) (vs : List Value) (xs : List EX), iv = .int .i64 (i : Int) ∧ i ≤ 96 ∧ Hid (i < 96 → liesB F i = true) ∧ Hid (wr.ownsRow (w.heap.size + 1) 33 2 lv n vs) ∧ Hid (Found F i vs xs) ∧ Hid (Below (w.heap.size + 1) (w.alloc (.cells (ints F).toArray 59)) wr)) (fun _ iv _ => 96 - (intOf iv).toNat)
  case atStart => exact ⟨r0, 0, [], [], rfl, hr0.2, HY, Lib.hid (owns_nil_r _ _ _ _), Lib.hid ⟨CellsE.nil, HZ.out⟩, Lib.hid (by have := HB.out; rwa [World.size_alloc] at this)⟩
  case round =>
    obtain ⟨i, n, vs, xs, rfl, hi, HYI, HO, HFO, HBR⟩ := hrel
    by_cases hlt : i < 96
    · have HFR : Hid (FileAt wr w.heap.size F) := Lib.hid (HF.out.later (by rw [World.size_alloc]; exact HBR.out))
      have d1 := HFR.out.cell hlt
      have hok := (ok_at HA.out i).resolve_left (by have := HYI.out hlt; unfold liesB at this; simpa using this)
      have HRF := fun (r : Nat) => run_found (r := r) HL.out HA.out hlt (HYI.out hlt)
      obtain ⟨x, hx⟩ : ∃ x, F.getD i 0 = x := ⟨_, rfl⟩
      rw [hx] at d1 hok HRF
      have HRF := Lib.hid HRF
      have i1 : (i : Int) < 96 := by omega
      have HSZ : Hid (w.heap.size + 1 ≤ wr.heap.size) := Lib.hid (by have := HBR.out.size; rwa [World.size_alloc] at this)
      have i2 : wrap64 (x - (i : Int)) = x - i := by unfold wrap64; omega
      have HW6 : Hid (Below wr.heap.size wr (wr.alloc (.cells #[.int .i64 (x - i)] 3))) := Lib.hid ((Below.refl _ _).alloc (Nat.le_refl _) _)
      have HF6 := Lib.hid (HFR.out.later HW6.out)
      clear hx HYI
      go_wp2_with (first | (go_at_call 49; refine (seekL_any HF5.out HL.out hr.2).mono ?_; rintro e w6 ⟨r6, rfl, hr6, hz, hy, hb⟩; have HZ6 := Lib.hid (lies_skip hr6.1 hz); have HY6 := Lib.hid hy; have HB6 := Lib.hid hb; clear hz hy hb) | (refine wpList_load_mid rfl 59 (.tmp 1) rfl w.heap.size 0 rfl (ints F) _ HF5.out.2 uFile rfl HI.out ?_) | (at_builtin; (refine wp_append_r elemX rfl (.tmp 35) (.tmp 39) rfl (w.heap.size + 1) n _ _ rfl ((owns_later_r HO.out HB3.out).alloc _) ⟨w3.heap.size, 0, none⟩ 1 1 [.int .i64 (i : Int), .complex .f64 p q] rfl rfl (news_r w3 [.int .i64 (i : Int), .complex .f64 p q] _) (ext_one i p q) (by have := HFO.out.length HL.out HO.out; omega) (by have h1 := HSZ.out; have h2 := HB3.out.size; rw [World.size_alloc]; omega) ?_; intro v5 w5 hown5 hg5 hb5; have HO5 := Lib.hid hown5; have HB5 := Lib.hid (((HBR.out.trans (HB3.out.mono HSZ.out)).alloc (by have h1 := HSZ.out; have h2 := HB3.out.size; omega) _).trans hb5); have HF5 := Lib.hid (HF.out.later (by rw [World.size_alloc]; exact HB5.out)); clear hown5 hg5 hb5)) | (go_at_call 44; refine (Of_run _ (by omega) (by have := HRD.out.1; omega) HRD.out.2.2.1 (by have := HRD.out.1; omega)).mono ?_; rintro e w4 ⟨p, q, rfl, hp, hq, rfl⟩; have HP := Lib.hid hp; have HQ := Lib.hid hq; clear hp hq) | (go_at_call 49; refine (seekE_any HF6.out HL.out (one_cell_new wr _ 3) (by omega) (by omega)).mono ?_; rintro e w3 ⟨r, rfl, hr, hz, hy, hb⟩; have HRD := Lib.hid (HRF.out r hr hz hy); have HB3 := Lib.hid (HW6.out.trans (hb.mono (by rw [World.size_alloc]; omega))); clear hz hy hb; have d3 := cell_later HB3.out d1; have i3 : wrap64 ((r : Int) - (i : Int)) = (r : Int) - i := (by have := HRD.out.1; unfold wrap64; omega)) | (refine wpList_load_mid rfl 59 (.tmp 1) rfl w.heap.size 0 rfl (ints F) _ HF6.out.2 uFile rfl HI.out ?_))
      go_roundw
      case rel =>
        have hs : w.heap.size + 1 ≤ w5.heap.size := by have := HB5.out.size; rwa [World.size_alloc] at this
        exact ⟨r6, n + 1, _, _, rfl, hr6.2, HY6, Lib.hid (owns_later_r HO5.out HB6.out), Lib.hid (HFO.out.next HRD.out.2.2.2 HZ6.out HP.out HQ.out), Lib.hid (HB5.out.trans (HB6.out.mono hs))⟩
      case measure => have := HRD.out.1; simp [intOf]; omega
    · have hin : i = 96 := by omega
      subst hin
      go_wp2_with fail
      go_ret
      have hx := HFO.out.2
      rw [List.drop_of_length_le (by rw [HL.out]; exact Nat.le_refl _), show fromE ((96 : Nat) : Int) [] = [] from rfl, List.append_nil] at hx
      exact ⟨_, n, vs, rfl, owns_mono_r HO.out (Nat.le_succ _), by rw [hx]; exact HFO.out.1, (((Below.refl w.heap.size w).alloc (Nat.le_refl _) _).trans (HBR.out.mono (Nat.le_succ _)))⟩

end Go.Proofs.Ytmgmlebkmdpddaa
