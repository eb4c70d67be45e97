/-
  Proved here: what bytes.Clone and the landed log's transaction answer.
  The conditions stand at each theorem.
-/
import Derived.Test.YtpmggbdmoopkfaaLgRing
import Derived.Test.YtpmggbdmoopkfaaRef15F
namespace Go.Proofs.Ytpmggbdmoopkfaa
open Go.RowKit
set_option linter.unusedVariables false
set_option linter.unusedSimpArgs false

/-- A copy of 64 bytes, in new memory. -/
def Copied (w : World) (zs : List Int) (e : Ending) (w' : World) : Prop :=
  ∃ g off c, e = .returned (.slice (some ⟨g, off, none⟩) (64 : Nat) c) ∧ Arg w' (some ⟨g, off, none⟩) 64 c zs ∧ w.heap.size ≤ g ∧ Below w.heap.size w w'

set_option maxRecDepth 100000 in
theorem bClone_any {w : World} {ad : Addr} {c : Nat} {zs : List Int} (hA : Arg w (some ad) 64 c zs) : Calls Try.prog 51 #[.slice (some ad) (64 : Nat) c] w (Copied w zs) := by
  obtain ⟨hB, hnil, _, hlen⟩ := hA
  have hown := World.ownsRow_made (base := w.heap.size) (e := 5) (size := 1) w #[] 0 (Nat.le_refl _) (by decide) rfl
  have hb0 : Below w.heap.size w (w.alloc (.cells #[] 5)) := (Below.refl _ _).alloc (Nat.le_refl _) _
  have hA0 := hB.later hb0
  have HZ := Lib.hid hB.2.2.1
  have HL := Lib.hid hB.1
  have EQ : ∀ w, (binOp .eql 25 (.slice (some ad) (64 : Nat) c) (.slice none 0 0)).run Try.prog w = .ok (.bool false) w := fun w => by
    simp only [binOp]
    simp [run_equal_slice_nil w 25 5 (some ad) 64 c Try.underlying25]
  clear hB hnil
  go_enter Try.func51, Try.ntmps51
  go_wp2_with (at_builtin; refine wp_append_bytes rfl (.tmp 5) (.tmp 6) rfl w.heap.size 0 _ [] rfl hown (some ad) 64 c zs rfl hA0 (by simp) (by omega) (by simp) ?_; intro v1 w1 hown1 hb1; have HB1 := Lib.hid (hb0.trans hb1); have HO1 := Lib.hid hown1; clear hown1 hb1 hown hA0)
  go_ret
  have h := HO1.out
  rw [Nat.zero_add, List.nil_append] at h
  obtain ⟨g, p, rfl, hc, hl, hO⟩ := own_of_owns (w0 := w) h HZ.out (by decide) HB1.out
  refine ⟨g, 0, p, rfl, ⟨?_, (fun h => by cases h), hc, by decide⟩, hO.2.2.2.1, HB1.out⟩
  have h2 := hO.bts (by rw [hl]; decide)
  rw [hl] at h2
  exact h2

/-! ### In plain words: the ways a transaction stands, or does not -/

theorem err_two (X : List Int) : getBegErr X = 0 ∨ getBegErr X = 2 := by unfold getBegErr; split; exact Or.inl rfl; exact Or.inr rfl
theorem err_end (X : List Int) : getEndErr X = 0 ∨ getEndErr X = 2 := by unfold getEndErr; split; exact Or.inl rfl; exact Or.inr rfl
theorem beg_is {X : List Int} (h : getBegErr X = 0) : isBeg X = true ∧ getBeg X = readD X ∧ 1 ≤ (getBeg X).to.length ∧ (getBeg X).to.length ≤ 20 := by
  have hb : isBeg X = true := by
    cases hI : isBeg X with
    | true => rfl
    | false => unfold getBegErr at h; rw [hI] at h; cases h
  have hg : getBeg X = readD X := by unfold getBeg; rw [if_pos hb]
  have := (soundD_parts (isBeg_block hb).2.1).1
  rw [hg]
  exact ⟨hb, rfl, this.1, this.2.1⟩
theorem end_is {X : List Int} (h : getEndErr X = 0) : isEnd X = true ∧ getEndSeq X = leN X 4 4 ∧ getEndCount X = X.getD 8 0 := by
  have hb : isEnd X = true := by
    cases hI : isEnd X with
    | true => rfl
    | false => unfold getEndErr at h; rw [hI] at h; cases h
  unfold getEndSeq getEndCount
  rw [if_pos hb, if_pos hb]
  exact ⟨hb, rfl, rfl⟩

theorem tx_none_ways {Z : List (List Int)} {a : Nat} {q : Int} (h : txAt Z a q = none) : getBegErr (Z.getD a []) = 2 ∨ (getBegErr (Z.getD a []) = 0 ∧ (getBeg (Z.getD a [])).seq ≠ q) ∨ (getBegErr (Z.getD a []) = 0 ∧ (getBeg (Z.getD a [])).seq = q ∧
    (getEndErr (Z.getD ((a + ((getBeg (Z.getD a [])).to.length + 1)) % 40) []) = 2 ∨ (getEndErr (Z.getD ((a + ((getBeg (Z.getD a [])).to.length + 1)) % 40) []) = 0 ∧ getEndSeq (Z.getD ((a + ((getBeg (Z.getD a [])).to.length + 1)) % 40) []) ≠ q) ∨
      (getEndErr (Z.getD ((a + ((getBeg (Z.getD a [])).to.length + 1)) % 40) []) = 0 ∧ getEndSeq (Z.getD ((a + ((getBeg (Z.getD a [])).to.length + 1)) % 40) []) = q ∧ getEndCount (Z.getD ((a + ((getBeg (Z.getD a [])).to.length + 1)) % 40) []) ≠ ((getBeg (Z.getD a [])).to.length : Int)))) := by
  rcases err_two (Z.getD a []) with h1 | h1
  · right
    by_cases h2 : (getBeg (Z.getD a [])).seq = q
    · right
      refine ⟨h1, h2, ?_⟩
      obtain ⟨b1, b2, b3, b4⟩ := beg_is h1
      rw [b2] at h2 ⊢
      rcases err_end (Z.getD ((a + ((readD (Z.getD a [])).to.length + 1)) % 40) []) with h3 | h3
      · right
        obtain ⟨e1, e2, e3⟩ := end_is h3
        by_cases h4 : getEndSeq (Z.getD ((a + ((readD (Z.getD a [])).to.length + 1)) % 40) []) = q
        · right
          refine ⟨h3, h4, fun h5 => ?_⟩
          unfold txAt at h
          rw [if_pos ⟨b1, h2, e1, by rw [← e2]; exact h4, by rw [← e3]; exact h5⟩] at h
          cases h
        · exact Or.inl ⟨h3, h4⟩
      · exact Or.inl h3
    · exact Or.inl ⟨h1, h2⟩
  · exact Or.inl h1
theorem tx_some_ways {Z : List (List Int)} {a : Nat} {q : Int} {l : List (Int × List Int)} (h : txAt Z a q = some l) : getBegErr (Z.getD a []) = 0 ∧ (getBeg (Z.getD a [])).seq = q ∧ (1 ≤ (getBeg (Z.getD a [])).to.length ∧ (getBeg (Z.getD a [])).to.length ≤ 20) ∧
    getEndErr (Z.getD ((a + ((getBeg (Z.getD a [])).to.length + 1)) % 40) []) = 0 ∧ getEndSeq (Z.getD ((a + ((getBeg (Z.getD a [])).to.length + 1)) % 40) []) = q ∧ getEndCount (Z.getD ((a + ((getBeg (Z.getD a [])).to.length + 1)) % 40) []) = ((getBeg (Z.getD a [])).to.length : Int) ∧ l = txL Z (getBeg (Z.getD a [])).to a (getBeg (Z.getD a [])).to.length := by
  unfold txAt at h
  split at h
  · next hc =>
    obtain ⟨c1, c2, c3, c4, c5⟩ := hc
    have h0 : getBegErr (Z.getD a []) = 0 := by unfold getBegErr; rw [if_pos c1]
    obtain ⟨b1, b2, b3, b4⟩ := beg_is h0
    have h1 : getEndErr (Z.getD ((a + ((readD (Z.getD a [])).to.length + 1)) % 40) []) = 0 := by unfold getEndErr; rw [if_pos c3]
    obtain ⟨e1, e2, e3⟩ := end_is h1
    rw [b2] at b3 b4 ⊢
    simp only [Option.some.injEq] at h
    exact ⟨h0, c2, ⟨b3, b4⟩, h1, by rw [e2]; exact c4, by rw [e3]; exact c5, h.symm⟩
  · cases h

/-- The list, so far: the first i writes; zero values behind them. -/
def WPart (base g m i : Nat) (ws : List (Int × List Int)) (w : World) : Prop :=
  g < w.heap.size ∧ (∀ j, w.frozen? ⟨g, j, none⟩ = false) ∧ (∀ j, i ≤ j → j < m → w.cell? ⟨g, j * 2, none⟩ = some (.int .i64 0) ∧ w.cell? ⟨g, j * 2 + 1, none⟩ = some (.slice none 0 0)) ∧
    ∀ (j : Nat) (a : Int) (zs : List Int), j < i → ws[j]? = some (a, zs) → w.cell? ⟨g, j * 2, none⟩ = some (.int .i64 a) ∧ I64 a ∧ ∃ db doff cap, w.cell? ⟨g, j * 2 + 1, none⟩ = some (.slice (some ⟨db, doff, none⟩) 64 cap) ∧ (base ≤ db ∧ db ≠ g) ∧ Arg w (some ⟨db, doff, none⟩) 64 cap zs

theorem WPart.later {base g m i : Nat} {ws : List (Int × List Int)} {w wx : World} (h : WPart base g m i ws w) (hb : Below w.heap.size w wx) : WPart base g m i ws wx := by
  obtain ⟨h1, h2, h3, h4⟩ := h
  refine ⟨Nat.lt_of_lt_of_le h1 hb.size, fun j => ?_, fun j hj hm => ?_, fun j a zs hj hz => ?_⟩
  · rw [hb.frozen (p := ⟨g, j, none⟩) h1]; exact h2 j
  · obtain ⟨c1, c2⟩ := h3 j hj hm
    exact ⟨cell_later hb c1, cell_later hb c2⟩
  · obtain ⟨c1, c2, db, doff, cap, c3, c4, c5⟩ := h4 j a zs hj hz
    exact ⟨cell_later hb c1, c2, db, doff, cap, cell_later hb c3, c4, c5.later hb⟩

theorem WPart.put {base g m i : Nat} {ws : List (Int × List Int)} {w : World} {a : Int} {zs : List Int} {db doff cap : Nat} (h : WPart base g m i ws w) (hi : i < m) (ha : I64 a) (hw : ws[i]? = some (a, zs)) (hdb : base ≤ db ∧ db ≠ g) (hA : Arg w (some ⟨db, doff, none⟩) 64 cap zs) :
    WPart base g m (i + 1) ws ((w.setCell ⟨g, i * 2, none⟩ (.int .i64 a)).setCell ⟨g, i * 2 + 1, none⟩ (.slice (some ⟨db, doff, none⟩) 64 cap)) := by
  obtain ⟨h1, h2, h3, h4⟩ := h
  have hk : Keeps g w ((w.setCell ⟨g, i * 2, none⟩ (.int .i64 a)).setCell ⟨g, i * 2 + 1, none⟩ (.slice (some ⟨db, doff, none⟩) 64 cap)) := (Keeps.set _ ⟨g, i * 2, none⟩ _).trans (Keeps.set _ ⟨g, i * 2 + 1, none⟩ _)
  have hoff : ∀ k, k ≠ i * 2 → k ≠ i * 2 + 1 → ((w.setCell ⟨g, i * 2, none⟩ (.int .i64 a)).setCell ⟨g, i * 2 + 1, none⟩ (.slice (some ⟨db, doff, none⟩) 64 cap)).cell? ⟨g, k, none⟩ = w.cell? ⟨g, k, none⟩ := fun k e1 e2 => by
    rw [World.cell?_setCell_other (h := by intro e; exact e2 (congrArg Addr.off e).symm), World.cell?_setCell_other (h := by intro e; exact e1 (congrArg Addr.off e).symm)]
  obtain ⟨z1, z2⟩ := h3 i (Nat.le_refl _) hi
  refine ⟨by rw [hk.1]; exact h1, fun j => by simpa using h2 j, fun j hj hm => ?_, fun j b ys hj hz => ?_⟩
  · rw [hoff _ (by omega) (by omega), hoff _ (by omega) (by omega)]
    exact h3 j (by omega) hm
  · by_cases hji : j = i
    · subst hji
      rw [hw] at hz
      cases hz
      refine ⟨?_, ha, db, doff, cap, ?_, hdb, arg_keeps hA hk hdb.2⟩
      · rw [World.cell?_setCell_other (h := by intro e; have := congrArg Addr.off e; simp only at this; omega)]
        exact World.cell?_setCell_same w _ _ z1
      · have e : (w.setCell ⟨g, j * 2, none⟩ (.int .i64 a)).cell? ⟨g, j * 2 + 1, none⟩ = some (.slice none 0 0) := by
          rw [World.cell?_setCell_other (h := by intro e; have := congrArg Addr.off e; simp only at this; omega)]
          exact z2
        exact World.cell?_setCell_same _ _ _ e
    · obtain ⟨c1, c2, db', doff', cap', c3, c4, c5⟩ := h4 j b ys (by omega) hz
      refine ⟨by rw [hoff _ (by omega) (by omega)]; exact c1, c2, db', doff', cap', by rw [hoff _ (by omega) (by omega)]; exact c3, c4, arg_keeps c5 hk c4.2⟩

theorem WPart.win {base g m : Nat} {ws : List (Int × List Int)} {w : World} (h : WPart base g m m ws w) (hl : ws.length = m) (hm : m ≤ 1000) (hg : base ≤ g) : WIn (fun k => base ≤ k ∧ k < w.heap.size) w (some ⟨g, 0, none⟩) m ws := by
  obtain ⟨h1, h2, h3, h4⟩ := h
  refine ⟨hl, by omega, Or.inr ⟨g, 0, rfl, ⟨hg, h1⟩, fun j a zs hj => ?_⟩⟩
  have hjm : j < m := by rw [← hl]; exact (List.getElem?_eq_some_iff.1 hj).1
  obtain ⟨c1, c2, db, doff, cap, c3, c4, c5⟩ := h4 j a zs hjm hj
  rw [Nat.zero_add]
  obtain ⟨b', o', he, hc⟩ := c5.1.2.2.2.resolve_left (by decide)
  simp only [Option.some.injEq, Addr.mk.injEq, and_true] at he
  obtain ⟨rfl, rfl⟩ := he
  exact ⟨c1, c2, db, doff, cap, c3, ⟨c4.1, World.block_lt_of_cell? _ _ (hc 0 (by decide))⟩, c5⟩

theorem run_make_wrs (w : World) (K : Nat) (hK : K ≤ 1000) : (Instr.makeSlice 45 (.int .i64 (K : Int)) (.int .i64 (K : Int))).run Try.prog w =
    .ok (.slice (some ⟨w.heap.size, 0, none⟩) K K) (w.alloc (.cells (madeCells #[.int .i64 0, .slice none 0 0] (K * 2)) 50)) := by
  have hinfo : (Try.prog.info? 50).map (fun i => (i.zero, i.size, i.bytes)) = some (some (.agg #[.int .i64 0, .slice none 0 0]), 2, 32) := by kernel_rfl
  obtain ⟨i0, hi, hz0, hz1, hz2⟩ := info_parts hinfo
  have h := run_make (P := Try.prog) w 45 50 i0 (.agg #[.int .i64 0, .slice none 0 0]) Try.underlying45 hi hz0 .i64 .i64 (K : Int) (K : Int) (by omega) (Int.le_refl _) (by rw [hz2]; omega) (by omega)
  simpa [hz1, Value.cells] using h
theorem made_wr (K j : Nat) (h : j < K) : (madeCells #[Value.int .i64 0, .slice none 0 0] (K * 2))[j * 2]? = some (.int .i64 0) ∧ (madeCells #[Value.int .i64 0, .slice none 0 0] (K * 2))[j * 2 + 1]? = some (.slice none 0 0) := by
  constructor
  · simp [madeCells, show j * 2 < K * 2 by omega]
  · simp [madeCells, show j * 2 + 1 < K * 2 by omega, show (j * 2 + 1) % 2 = 1 by omega]
theorem WPart.made (w : World) (K : Nat) (ws : List (Int × List Int)) : WPart w.heap.size w.heap.size K 0 ws (w.alloc (.cells (madeCells #[.int .i64 0, .slice none 0 0] (K * 2)) 50)) := by
  refine ⟨by simp, fun j => by rw [World.frozen?_alloc_mark]; simp, fun j _ hj => ?_, fun j _ _ h => by omega⟩
  rw [World.cell?_alloc_new, World.cell?_alloc_new]
  exact made_wr K j hj

def NoTx (w : World) (e : Ending) (w' : World) : Prop := e = .returned (.tuple #[.slice none 0 0, .bool false]) ∧ Below w.heap.size w w'

/-- A log's block that stands whole, and its first words. -/
theorem LogAt.lies {w : World} {B b off cap : Nat} {Z : List (List Int)} (h : LogAt w B b off cap Z) (k : Nat) (hk : k ≤ 1000) {x : Int} (hx : x = (k : Int)) :
    Calls Try.prog 36 #[.int .i64 x, .pointer (some ⟨B, 0, none⟩)] w fun e w' => (∃ ad c, e = .returned (.slice (some ad) (64 : Nat) c) ∧ Arg w' (some ad) 64 c (Z.getD (k % 40) [])) ∧ w = w' := by
  subst hx
  exact lies_any k hk h

end Go.Proofs.Ytpmggbdmoopkfaa
