/-
  Proved here: what the landed super's writing and reading place by place answer.
  The conditions stand at each theorem.
-/
import Derived.Test.YtpmggbdmoopkfaaSupWay
import Derived.Deep.RegionHeld
namespace Go.Proofs.Ytpmggbdmoopkfaa
open Go.RowKit
set_option linter.unusedVariables false
set_option linter.unusedSimpArgs false

theorem drew_of (w : World) : { w with drawn := w.drawn + 1 } = w.drew := rfl

/-- What comes of a block when the first i numbers are put, one after the other. -/
def wrt (zs : List Int) (ps : List (Nat × Nat)) (vs : List Int) : Nat → List Int
  | 0 => zs
  | i + 1 => setOut (wrt zs ps vs i) ((ps.getD i (0, 0)).1 : Nat) ((ps.getD i (0, 0)).2 : Nat) (vs.getD i 0)

theorem ps_at {ps : List (Nat × Nat)} {i : Nat} (h : i < ps.length) : ps[i]? = some ((ps.getD i (0, 0)).1, (ps.getD i (0, 0)).2) := by
  simp [List.getD, h]

theorem fresh_form {w : World} {base : Nat} {v : Value} {l : List Int} (h : Fresh w base v l) : ∃ ao cap, v = .slice ao l.length cap ∧ Arg w ao l.length cap l := by
  obtain ⟨ao, cap, hv, hA, _⟩ := h
  exact ⟨ao, cap, hv, hA⟩

set_option maxHeartbeats 1600000 in
theorem write_any (s : ByteArray) (gp g n : Nat) (ps : List (Nat × Nat)) (vs : List Int) (w : World) (hs : s.size ≤ 60) (hn : ps.length = n) (hn5 : n ≤ 5) (hps : smallPs ps) (hp : PlIs w gp g ps) (hv : ∀ j, j < n → w.cell? ⟨g, j, none⟩ = some (.int .i64 (vs.getD j 0))) (hi : ∀ j, j < n → i64w (vs.getD j 0)) :
    Calls Try.prog 47 #[.string s, .slice (some ⟨gp, 0, none⟩) n n] w (Gives w.heap.size w (sealOut sumS (wrt (textOut zeroes64 0 (bytesOf s)) ps vs n))) := by
  have hmk := run_make_bytes w 64 (by decide)
  rw [show ((64 : Nat) : Int) = 64 from rfl] at hmk
  have hA0 := made_arg w 64 (by decide)
  have hB0 : Below w.heap.size w (w.alloc (.cells (madeCells #[.int .u8 0] 64) 5)) := (Below.refl _ _).alloc (Nat.le_refl _) _
  have HP := Lib.hid hp
  have HPS := Lib.hid hps
  have HV := Lib.hid hv
  have HI := Lib.hid hi
  clear hp hps hv hi
  generalize hw1 : w.alloc (.cells (madeCells #[.int .u8 0] 64) 5) = w1 at *
  have HW1 := Lib.hid hw1
  have HB0 := Lib.hid hB0
  have cT := fText_any _ 64 64 (List.replicate 64 0) 0 s w1 hA0 (by decide) (by omega)
  clear hw1 hB0 hA0
  go_enter Try.func47, Try.ntmps47
  go_wp2_with (go_at_call 39; refine cT.mono ?_; rintro e w2 ⟨v2, rfl, hf2, hb2⟩; have F2 := Lib.hid (hf2.mono HB0.out.size); have B2 := Lib.hid (HB0.out.trans (hb2.mono HB0.out.size)); clear hf2 hb2)
  go_loopw [5, 17] (fun bv iv wr => ∃ i : Nat, iv = .int .i64 (i : Int) ∧ i ≤ n ∧ Hid (Fresh wr w.heap.size bv (wrt (textOut zeroes64 0 (bytesOf s)) ps vs i)) ∧ Hid (Below w.heap.size w wr)) (fun _ iv _ => n - (intOf iv).toNat)
  case atStart => exact ⟨0, rfl, Nat.zero_le _, F2, B2⟩
  case round =>
    obtain ⟨i, rfl, hi, HF, HB⟩ := hrel
    by_cases hlt : i < n
    · obtain ⟨a, ha⟩ : ∃ a, (ps.getD i (0, 0)).1 = a := ⟨_, rfl⟩
      obtain ⟨b, hb⟩ : ∃ b, (ps.getD i (0, 0)).2 = b := ⟨_, rfl⟩
      obtain ⟨x, hx⟩ : ∃ x, vs.getD i 0 = x := ⟨_, rfl⟩
      have hat := ps_at (ps := ps) (i := i) (by omega)
      rw [ha, hb] at hat
      obtain ⟨c1, c2, c3⟩ := HP.out i a b hat
      have c4 := HV.out i hlt
      have hsm := HPS.out i a b hat
      have hxi := HI.out i hlt
      rw [hx] at c4 hxi
      unfold i64w at hxi
      have HS : Hid (wrt (textOut zeroes64 0 (bytesOf s)) ps vs (i + 1) = setOut (wrt (textOut zeroes64 0 (bytesOf s)) ps vs i) (a : Nat) (b : Nat) x) := Lib.hid (by
        show setOut _ _ _ _ = _
        rw [ha, hb, hx])
      generalize wrt (textOut zeroes64 0 (bytesOf s)) ps vs i = L at *
      obtain ⟨ao, cap, rfl, hA⟩ := fresh_form HF.out
      have d1 := cell_later HB.out c1
      have d2 := cell_later HB.out c2
      have d3 := cell_later HB.out c3
      have d4 := cell_later HB.out c4
      have hgl := World.block_lt_of_cell? _ _ d4
      have HC : Hid (∀ W, Below wr.heap.size wr W → Calls Try.prog 25 #[.slice ao L.length cap, .int .i64 (a : Int), .int .i64 (b : Int), .int .i64 x] W (Handed W.heap.size W (setOut L a b x) (setErr L.length a b x))) :=
        Lib.hid (fun W hW => fSet_any ao L.length cap L a b x W (hA.later hW) (by omega) (by omega) hxi)
      have HN : Hid (Below wr.heap.size wr (wr.alloc (.cells #[.int .i64 (a : Int), .int .i64 (b : Int), .pointer (some ⟨g, i, none⟩)] 93)).drew) := Lib.hid ((Below.refl _ _).alloc (Nat.le_refl _) _).drew
      have HK : Hid (∀ W, Below (wr.alloc (.cells #[.int .i64 (a : Int), .int .i64 (b : Int), .pointer (some ⟨g, i, none⟩)] 93)).drew.heap.size (wr.alloc (.cells #[.int .i64 (a : Int), .int .i64 (b : Int), .pointer (some ⟨g, i, none⟩)] 93)).drew W → W.cell? ⟨wr.heap.size, 0, none⟩ = some (.int .i64 (a : Int)) ∧ W.cell? ⟨wr.heap.size, 1, none⟩ = some (.int .i64 (b : Int)) ∧ W.cell? ⟨wr.heap.size, 2, none⟩ = some (.pointer (some ⟨g, i, none⟩)) ∧ W.cell? ⟨g, i, none⟩ = some (.int .i64 x) ∧ Hid (Below wr.heap.size wr W)) := Lib.hid (fun W hW =>
        ⟨cell_later hW (new_cell wr _ _ _ _ rfl), cell_later hW (new_cell wr _ _ _ _ rfl), cell_later hW (new_cell wr _ _ _ _ rfl), cell_later hW (cell_later HN.out d4), Lib.hid (HN.out.trans (hW.mono HN.out.size))⟩)
      have i1 : (i : Int) < (n : Int) := by omega
      generalize L.length = len at *
      clear ha hb hx hat c1 c2 c3 c4 hsm hA hxi
      go_wp2_with fail
      go_region_held (fun W => W.cell? ⟨wr.heap.size, 0, none⟩ = some (.int .i64 (a : Int)) ∧ W.cell? ⟨wr.heap.size, 1, none⟩ = some (.int .i64 (b : Int)) ∧ W.cell? ⟨wr.heap.size, 2, none⟩ = some (.pointer (some ⟨g, i, none⟩)) ∧ W.cell? ⟨g, i, none⟩ = some (.int .i64 x) ∧ Hid (Below wr.heap.size wr W)) (first | exact HK.out _ (Below.refl _ _) | exact HK.out _ B5.out)
        (first | (go_at_call 25; refine (HC.out _ HN.out).mono ?_; rintro e w5 ⟨v5, rfl, hf5, hb5⟩; have F5 := Lib.hid hf5; have B5 := Lib.hid hb5; clear hf5 hb5))
      go_wp2_with fail
      go_roundw
      case rel => exact ⟨i + 1, by go_num, by omega, Lib.hid (by rw [HS.out]; exact F5.out.mono (Nat.le_trans HB.out.size HN.out.size)), Lib.hid ((HB.out.trans (HN.out.mono HB.out.size)).trans (B5.out.mono (Nat.le_trans HB.out.size HN.out.size)))⟩
      case measure => simp [intOf]; omega
    · have hin : i = n := by omega
      subst hin
      obtain ⟨ao, cap, rfl, hA⟩ := fresh_form HF.out
      have cS := fSeal_any ao _ cap _ wr hA
      clear hA
      generalize wrt (textOut zeroes64 0 (bytesOf s)) ps vs i = L at *
      generalize L.length = len at *
      go_wp2_with (go_at_call 26; refine cS.mono ?_; rintro e w5 ⟨v5, rfl, hf5, hb5⟩; have F5 := Lib.hid hf5; have B5 := Lib.hid hb5; clear hf5 hb5)
      go_ret
      exact ⟨v5, rfl, F5.out.mono HB.out.size, HB.out.trans (B5.out.mono HB.out.size)⟩

/-- Reading behind i rounds: the first i cells of block g hold what was read. -/
def Rd (w0 : World) (gp g : Nat) (ps : List (Nat × Nat)) (n : Nat) (zs : List Int) (i : Nat) (wr : World) : Prop :=
  Below w0.heap.size w0 wr ∧ PlIs wr gp g ps ∧ (∀ j, j < n → wr.cell? ⟨g, j, none⟩ = some (.int .i64 (if j < i then getOut zs ((ps.getD j (0, 0)).1 : Nat) ((ps.getD j (0, 0)).2 : Nat) else 0))) ∧ (∀ j, wr.frozen? ⟨g, j, none⟩ = false)

theorem Rd.alloc {w0 wr : World} {gp g n i : Nat} {ps : List (Nat × Nat)} {zs : List Int} (h : Rd w0 gp g ps n zs i wr) (hg : g < wr.heap.size) (o : Obj) : Rd w0 gp g ps n zs i (wr.alloc o) := by
  have hb : Below wr.heap.size wr (wr.alloc o) := (Below.refl _ _).alloc (Nat.le_refl _) _
  exact ⟨h.1.trans (hb.mono h.1.size), h.2.1.later hb, fun j hj => cell_later hb (h.2.2.1 j hj), fun j => by rw [hb.frozen (p := ⟨g, j, none⟩) hg]; exact h.2.2.2 j⟩

theorem Rd.step {w0 wr : World} {gp g n i : Nat} {ps : List (Nat × Nat)} {zs : List Int} (h : Rd w0 gp g ps n zs i wr) (hg : w0.heap.size ≤ g) (hne : gp ≠ g) (hi : i < n) {x : Int} (hx : x = getOut zs ((ps.getD i (0, 0)).1 : Nat) ((ps.getD i (0, 0)).2 : Nat)) : Rd w0 gp g ps n zs (i + 1) (wr.setCell ⟨g, i, none⟩ (.int .i64 x)) := by
  refine ⟨h.1.setCell (p := ⟨g, i, none⟩) hg _, fun j a b hj => ?_, fun j hj => ?_, fun j => by simpa using h.2.2.2 j⟩
  · obtain ⟨h1, h2, h3⟩ := h.2.1 j a b hj
    refine ⟨?_, ?_, ?_⟩
    all_goals rw [World.cell?_setCell_other (h := by intro e; exact hne (by simpa using (congrArg Addr.block e).symm))]
    · exact h1
    · exact h2
    · exact h3
  · by_cases e : j = i
    · subst e
      rw [if_pos (by omega), ← hx]
      exact World.cell?_setCell_same wr _ _ (h.2.2.1 j hj)
    · rw [World.cell?_setCell_other (h := by intro e'; exact e (by simpa using (congrArg Addr.off e').symm)), h.2.2.1 j hj]
      by_cases h1 : j < i
      · rw [if_pos h1, if_pos (by omega)]
      · rw [if_neg h1, if_neg (by omega)]

theorem kept_made {wr : World} {g i b : Nat} {o : Obj} {v : Value} (hb : b ≠ g) (hl : b < wr.heap.size) : ((wr.alloc o).setCell ⟨g, i, none⟩ v).drew.heap[b]? = wr.heap[b]? := by
  show ((wr.alloc o).setCell ⟨g, i, none⟩ v).heap[b]? = wr.heap[b]?
  rw [Below.heap_setCell _ _ _ _ hb]
  exact ((Below.refl wr.heap.size wr).alloc (Nat.le_refl _) o).block b hl

theorem Rd.drew {w0 wr : World} {gp g n i : Nat} {ps : List (Nat × Nat)} {zs : List Int} (h : Rd w0 gp g ps n zs i wr) : Rd w0 gp g ps n zs i wr.drew :=
  ⟨h.1.drew, fun j a b hj => h.2.1 j a b hj, fun j hj => h.2.2.1 j hj, fun j => h.2.2.2 j⟩

end Go.Proofs.Ytpmggbdmoopkfaa

