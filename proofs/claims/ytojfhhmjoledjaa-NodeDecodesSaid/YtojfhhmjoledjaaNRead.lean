/-
  Proved here: what the landed node's read answers of any bytes.
  The conditions stand at each theorem.
-/
import Derived.Test.YtojfhhmjoledjaaNGet
import Derived.Test.YtojfhhmjoledjaaNFrom
import Derived.Test.YtojfhhmjoledjaaNEnc
namespace Go.Proofs.Ytojfhhmjoledjaa
open Go.RowKit
set_option linter.unusedVariables false
set_option linter.unusedSimpArgs false

/-- A text laid over 64 zeros, as much of it as fits. -/
def pad64n (zs : List Int) : List Int := lay zeros64n 0 (zs.take 64)
theorem pad64n_length (zs : List Int) : (pad64n zs).length = 64 := by unfold pad64n; rw [lay_length]; rfl

theorem bts_cut9 {w : World} {ao : Option Addr} {m k : Nat} {zs : List Int} (h : Bts w ao m zs) (hk : k ≤ m) : Bts w ao k (zs.take k) := by
  obtain ⟨h1, h2, h3, h4⟩ := h
  refine ⟨by rw [List.length_take]; omega, by omega, fun z hz => h3 z (List.mem_of_mem_take hz), ?_⟩
  rcases h4 with h4 | ⟨b, off, rfl, hc⟩
  · exact Or.inl (by omega)
  · exact Or.inr ⟨b, off, rfl, fun j hj => by rw [take_getD _ _ _ hj]; exact hc j (by omega)⟩

/-- 'copy' of bytes into 64 bytes of the call's own. -/
theorem own_copy_min9 {base g : Nat} {w0 w : World} (hO : Own base w0 g zeros64n w) (ao : Option Addr) (m c : Nat) (zs : List Int) (hB : Bts w ao m zs) (ty : TypeId) :
    ∃ v' w', (Builtin.copy_ #[22, 22] ty #[.slice (some ⟨g, 0, none⟩) 64 64, .slice ao m c]).run Try.prog w = .ok v' w' ∧ Own base w0 g (pad64n zs) w' := by
  have hl0 : zs.length = m := hB.1
  cases ao with
  | none =>
    have hz : zs = [] ∧ m = 0 := by
      rcases hB.2.2.2 with h0 | ⟨b, o, he, _⟩
      · exact ⟨List.length_eq_zero_iff.1 (by rw [hB.1, h0]), h0⟩
      · cases he
    obtain ⟨rfl, rfl⟩ := hz
    exact ⟨_, _, run_copy_none (P := Try.prog) w 22 22 ty 5 _ none 64 64 0 c Try.underlying22 size5 (by simp), hO⟩
  | some ad =>
    have hBk := bts_cut9 (k := min m 64) hB (Nat.min_le_left _ _)
    have htk : zs.take (min m 64) = zs.take 64 := by
      by_cases h : m ≤ 64
      · rw [Nat.min_eq_left h, List.take_of_length_le (by omega), List.take_of_length_le (by omega)]
      · rw [Nat.min_eq_right (by omega)]
    rw [htk] at hBk
    have hl : ((zs.take 64).map (Value.int .u8)).length = min m 64 := by rw [List.length_map, hBk.1]
    have hr := run_copy_cells (P := Try.prog) w 22 22 ty 5 g 0 64 64 ad m c ((zs.take 64).map (Value.int .u8)) Try.underlying22 size5 hl (bts_news hBk rfl)
      (fun j hj => by rw [Nat.zero_add]; rw [hO.2.1 j (by show j < 64; omega)]; rfl) (fun j _ => hO.2.2.1 _) (one_cells _)
    exact ⟨_, _, hr, hO.fill (zs.take 64) zeros64n 0 w (by show 0 + _ ≤ 64; rw [List.length_take]; omega) hBk.2.2.1⟩

/-- What the places hold when a block is read: the head first, then the body of the format that the head says. -/
def readV (L : List Int) : Nat → Int := gotV L (bodyPs (gotV L headPs9 (fun _ => 0) 1)) (gotV L headPs9 (fun _ => 0))
/-- The node that a block is read as. -/
def readN (L : List Int) : PNode := ⟨readV L 0, readV L 1, readV L 2, readV L 3, readV L 4, readV L 5, readV L 6, readV L 7, readV L 8, readV L 9, gotX [⟨readV L 12, readV L 13, readV L 14⟩, ⟨readV L 15, readV L 16, readV L 17⟩, ⟨readV L 18, readV L 19, readV L 20⟩], readV L 11⟩

theorem getOut_small {L : List Int} (hz : ∀ z ∈ L, 0 ≤ z ∧ z ≤ 255) (p : Int) : (0 ≤ getOut L p 1 ∧ getOut L p 1 ≤ 255) ∧ (0 ≤ getOut L p 2 ∧ getOut L p 2 ≤ 65535) := by
  unfold getOut
  refine ⟨?_, ?_⟩
  · split
    · have ho := fErr_ok (by assumption)
      have h := leN_bounds hz p.toNat 1 (by omega)
      have e : (256 : Int) ^ 1 = 256 := rfl
      have e1 : Int.toNat 1 = 1 := rfl
      rw [e1]
      omega
    · decide
  · split
    · have ho := fErr_ok (by assumption)
      have h := leN_bounds hz p.toNat 2 (by omega)
      have e : (256 : Int) ^ 2 = 65536 := rfl
      have e1 : Int.toNat 2 = 2 := rfl
      rw [e1]
      omega
    · decide

/-- What is read is small, place by place. -/
theorem readV_small {L : List Int} (hz : ∀ z ∈ L, 0 ≤ z ∧ z ≤ 255) : (∀ o, 0 ≤ readV L o ∧ readV L o ≤ 65535) ∧ (readV L 12 ≤ 255 ∧ readV L 14 ≤ 255 ∧ readV L 15 ≤ 255 ∧ readV L 17 ≤ 255 ∧ readV L 18 ≤ 255 ∧ readV L 20 ≤ 255) := by
  have main : ∀ (ps : List Pl) (V : Nat → Int) (o : Nat), (∀ p ∈ ps, p.2.1 = 1 ∨ p.2.1 = 2) → (0 ≤ V o ∧ V o ≤ 65535) → 0 ≤ gotV L ps V o ∧ gotV L ps V o ≤ 65535 := by
    intro ps
    induction ps with
    | nil => exact fun V o _ h => h
    | cons p r ih =>
      intro V o hp hV
      refine ih _ o (fun q hq => hp q (List.mem_cons_of_mem _ hq)) ?_
      simp only
      split
      · have g := getOut_small hz p.1
        rcases hp p (by simp) with e | e
        · rw [e]; omega
        · rw [e]; exact g.2
      · exact hV
  have one : ∀ (ps : List Pl) (V : Nat → Int) (o : Nat), (∀ p ∈ ps, p.2.2 = o → p.2.1 = 1) → V o ≤ 255 → gotV L ps V o ≤ 255 := by
    intro ps
    induction ps with
    | nil => exact fun V o _ h => h
    | cons p r ih =>
      intro V o hp hV
      refine ih _ o (fun q hq => hp q (List.mem_cons_of_mem _ hq)) ?_
      simp only
      split
      · have g := getOut_small hz p.1
        rw [hp p (by simp) (by omega)]
        exact g.1.2
      · exact hV
  have hb : ∀ f, ∀ p ∈ bodyPs f, p.2.1 = 1 ∨ p.2.1 = 2 := by
    intro f
    unfold bodyPs
    split
    · unfold oldPs; decide
    · split
      · unfold newPs slotPs; decide
      · simp
  have hh : ∀ p ∈ headPs9, p.2.1 = 1 ∨ p.2.1 = 2 := by unfold headPs9; decide
  have h1 : ∀ o, (o = 12 ∨ o = 14 ∨ o = 15 ∨ o = 17 ∨ o = 18 ∨ o = 20) → readV L o ≤ 255 := by
    intro o ho
    refine one _ _ o ?_ (one _ _ o ?_ (by decide))
    · intro p hp e
      subst e
      unfold bodyPs at hp
      split at hp
      · revert ho; revert p; unfold oldPs; decide
      · split at hp
        · revert ho; revert p; unfold newPs slotPs; decide
        · cases hp
    · intro p hp e
      subst e
      revert ho; revert p; unfold headPs9; decide
  exact ⟨fun o => main _ _ o (hb _) (main _ _ o hh (by decide)), h1 12 (by decide), h1 14 (by decide), h1 15 (by decide), h1 17 (by decide), h1 18 (by decide), h1 20 (by decide)⟩

theorem gotX_small {ts : List PX} (h : ∀ x ∈ ts, smallX x) : ∀ x ∈ gotX ts, smallX x := by
  intro x hx
  unfold gotX at hx
  obtain ⟨y, hy, rfl⟩ := List.mem_map.1 hx
  have hy' := h y ((List.takeWhile_sublist _).mem hy)
  unfold smallX smallR at *
  unfold fixX partA partB
  simp only
  split <;> omega

theorem readN_small {L : List Int} (hz : ∀ z ∈ L, 0 ≤ z ∧ z ≤ 255) : (readN L).small := by
  obtain ⟨h, h12, h14, h15, h17, h18, h20⟩ := readV_small hz
  refine ⟨h 0, h 1, h 2, h 3, h 4, h 5, h 6, h 7, h 8, h 9, h 11, gotX_small (fun x hx => ?_)⟩
  simp only [List.mem_cons, List.mem_nil_iff, or_false] at hx
  have a12 := h 12
  have a13 := h 13
  have a14 := h 14
  have a15 := h 15
  have a16 := h 16
  have a17 := h 17
  have a18 := h 18
  have a19 := h 19
  have a20 := h 20
  unfold smallX smallR
  rcases hx with rfl | rfl | rfl
  · exact ⟨⟨a12.1, h12⟩, a13.1, a13.2, a14.1, h14⟩
  · exact ⟨⟨a15.1, h15⟩, a16.1, a16.2, a17.1, h17⟩
  · exact ⟨⟨a18.1, h18⟩, a19.1, a19.2, a20.1, h20⟩

theorem XIs.setCell {w : World} {ao : Option Addr} {m g k : Nat} {xs : List PX} {v : Value} (h : XIs w ao m xs) (hne : ∀ b o s, ao = some ⟨b, o, s⟩ → b ≠ g) : XIs (w.setCell ⟨g, k, none⟩ v) ao m xs := by
  obtain ⟨h1, h2, h3⟩ := h
  refine ⟨h1, h2, ?_⟩
  rcases h3 with h3 | ⟨b, off, rfl, hc⟩
  · exact Or.inl h3
  · have hb := hne b off none rfl
    refine Or.inr ⟨b, off, rfl, fun i x hx => ?_⟩
    obtain ⟨c1, u, c2, c3⟩ := hc i x hx
    exact ⟨by rw [World.cell?_setCell_other (h := by intro e; exact hb (by simpa using (congrArg Addr.block e).symm))]; exact c1, u, by rw [World.cell?_setCell_other (h := by intro e; exact hb (by simpa using (congrArg Addr.block e).symm))]; exact c2, c3⟩

theorem XIs.setCells {ao : Option Addr} {m g : Nat} {xs : List PX} (hne : ∀ b o s, ao = some ⟨b, o, s⟩ → b ≠ g) : ∀ (vs : List Value) (o : Nat) (w : World), XIs w ao m xs → XIs (w.setCells g o vs) ao m xs
  | [], _, _, h => h
  | v :: r, o, w, h => XIs.setCells hne r (o + 1) _ (h.setCell hne)

/-- The new half. -/
theorem rd_new (w2 : World) : Rd9 w2 w2.heap.size (fun _ => 0) (w2.alloc (.cells #[.int .i64 0, .int .i64 0, .int .i64 0, .int .i64 0, .int .i64 0, .int .i64 0, .int .i64 0, .int .i64 0, .int .i64 0, .int .i64 0, .slice none 0 0, .int .i64 0, .int .i64 0, .int .i64 0, .int .i64 0, .int .i64 0, .int .i64 0, .int .i64 0, .int .i64 0, .int .i64 0, .int .i64 0] 47)) := by
  refine ⟨(Below.refl _ _).alloc (Nat.le_refl _) _, fun o ho hne => ?_, ?_, fun j => by rw [World.frozen?_alloc_mark]; simp⟩
  · rw [World.cell?_alloc_new]
    match o, ho, hne with
    | 0, _, _ | 1, _, _ | 2, _, _ | 3, _, _ | 4, _, _ | 5, _, _ | 6, _, _ | 7, _, _ | 8, _, _ | 9, _, _ | 11, _, _ | 12, _, _ | 13, _, _ | 14, _, _ | 15, _, _ | 16, _, _ | 17, _, _ | 18, _, _ | 19, _, _ | 20, _, _ => rfl
    | 10, _, h => exact absurd rfl h
    | o + 21, h, _ => exact absurd h (by omega)
  · rw [World.cell?_alloc_new]; rfl

/-- A variable that was made, later. -/
theorem there_later {w w2 : World} {T : TypeId} {cs : Array Value} {n : Nat} (hb : Below (w.alloc (.cells cs T)).heap.size (w.alloc (.cells cs T)) w2) (hn : cs.size = n) : w2.there w.heap.size 0 n := by
  have h := there_new w cs T hn
  intro j hj
  obtain ⟨h1, h2⟩ := h j hj
  obtain ⟨v, hv⟩ := Option.isSome_iff_exists.1 h1
  refine ⟨by rw [cell_later hb hv]; rfl, ?_⟩
  rw [hb.frozen (p := ⟨w.heap.size, 0 + j, none⟩) (by simp)]
  exact h2

theorem there_kept {w w2 : World} {b n : Nat} (h : w.there b 0 n) (hn : 0 < n) (hb : Below w.heap.size w w2) : w2.there b 0 n := by
  have hlt : b < w.heap.size := by
    obtain ⟨v, hv⟩ := Option.isSome_iff_exists.1 (h 0 hn).1
    exact World.block_lt_of_cell? _ _ hv
  intro j hj
  obtain ⟨h1, h2⟩ := h j hj
  obtain ⟨v, hv⟩ := Option.isSome_iff_exists.1 h1
  refine ⟨by rw [cell_later hb hv]; rfl, ?_⟩
  rw [hb.frozen (p := ⟨b, 0 + j, none⟩) hlt]
  exact h2

theorem there_set {w : World} {b n g k : Nat} {v : Value} (h : w.there b 0 n) (hne : g ≠ b) : (w.setCell ⟨g, k, none⟩ v).there b 0 n := by
  intro j hj
  obtain ⟨h1, h2⟩ := h j hj
  exact ⟨by rw [World.cell?_setCell_other (h := by intro e; exact hne (by simpa using congrArg Addr.block e))]; exact h1, by simpa using h2⟩

theorem readX_small {L : List Int} (hz : ∀ z ∈ L, 0 ≤ z ∧ z ≤ 255) : smallX ⟨readV L 12, readV L 13, readV L 14⟩ ∧ smallX ⟨readV L 15, readV L 16, readV L 17⟩ ∧ smallX ⟨readV L 18, readV L 19, readV L 20⟩ := by
  obtain ⟨h, h12, h14, h15, h17, h18, h20⟩ := readV_small hz
  exact ⟨⟨⟨(h 12).1, h12⟩, (h 13).1, (h 13).2, (h 14).1, h14⟩, ⟨⟨(h 15).1, h15⟩, (h 16).1, (h 16).2, (h 17).1, h17⟩, ⟨(h 18).1, h18⟩, (h 19).1, (h 19).2, (h 20).1, h20⟩

theorem below_setCell9 {w w8 : World} {g : Nat} (h : Below w.heap.size w w8) (hlt : w.heap.size < g) (xo : Option Addr) (m xc : Nat) : Below w.heap.size w (w8.setCell ⟨g, 10, none⟩ (.slice xo m xc)) := h.setCell (p := ⟨g, 10, none⟩) (Nat.le_of_lt hlt) _

set_option maxRecDepth 100000 in
set_option maxHeartbeats 6400000 in
theorem read9_any (ao : Option Addr) (len cap : Nat) (zs : List Int) (w : World) (hA : Arg w ao len cap zs) :
    Calls Try.prog 8 #[.slice ao len cap] w fun e w' => ∃ xo m xc, e = .returned ((readN (pad64n zs)).val (.slice xo m xc)) ∧ XIs w' xo m (readN (pad64n zs)).x ∧ (m ≤ xc ∧ xc ≤ 9223372036854775807) ∧ (∀ b o s, xo = some ⟨b, o, s⟩ → w.heap.size ≤ b) ∧ Below w.heap.size w w' := by
  obtain ⟨L, hL⟩ : ∃ L, pad64n zs = L := ⟨_, rfl⟩
  have HL64 : Hid (L.length = 64) := Lib.hid (by rw [← hL, pad64n_length])
  have hLL := Lib.hid hL
  rw [hL]
  have hB1 : Below w.heap.size w (w.alloc (.cells #[.int .i64 0, .int .i64 0, .int .i64 0, .int .i64 0, .int .i64 0, .int .i64 0, .int .i64 0, .int .i64 0, .int .i64 0, .int .i64 0, .slice none 0 0, .int .i64 0] 26)) := (Below.refl _ _).alloc (Nat.le_refl _) _
  have hmk := run_make_bytes (w.alloc (.cells #[.int .i64 0, .int .i64 0, .int .i64 0, .int .i64 0, .int .i64 0, .int .i64 0, .int .i64 0, .int .i64 0, .int .i64 0, .int .i64 0, .slice none 0 0, .int .i64 0] 26)) 64 (by decide)
  rw [show ((64 : Nat) : Int) = 64 from rfl] at hmk
  have hO := made_own (w.alloc (.cells #[.int .i64 0, .int .i64 0, .int .i64 0, .int .i64 0, .int .i64 0, .int .i64 0, .int .i64 0, .int .i64 0, .int .i64 0, .int .i64 0, .slice none 0 0, .int .i64 0] 26)) 64
  have hBB := (hA.1.later hB1).later hO.2.2.2.2
  have HTH : Hid (∀ W, Below (w.alloc (.cells #[.int .i64 0, .int .i64 0, .int .i64 0, .int .i64 0, .int .i64 0, .int .i64 0, .int .i64 0, .int .i64 0, .int .i64 0, .int .i64 0, .slice none 0 0, .int .i64 0] 26)).heap.size (w.alloc (.cells #[.int .i64 0, .int .i64 0, .int .i64 0, .int .i64 0, .int .i64 0, .int .i64 0, .int .i64 0, .int .i64 0, .int .i64 0, .int .i64 0, .slice none 0 0, .int .i64 0] 26)) W → W.there w.heap.size 0 12) := Lib.hid (fun W hW => there_later hW rfl)
  rw [World.size_alloc] at hmk hO HTH
  have HO := Lib.hid hO
  have HBB := Lib.hid hBB
  have HB1 := Lib.hid hB1
  clear hL hB1 hA hO hBB
  generalize (w.alloc (.cells #[.int .i64 0, .int .i64 0, .int .i64 0, .int .i64 0, .int .i64 0, .int .i64 0, .int .i64 0, .int .i64 0, .int .i64 0, .int .i64 0, .slice none 0 0, .int .i64 0] 26)).alloc (.cells (madeCells #[.int .u8 0] 64) 5) = W2 at *
  have hV1 : gotV L (bodyPs (gotV L headPs9 (fun _ => 0) 1)) (gotV L headPs9 (fun _ => 0)) = readV L := rfl
  have HV1 := Lib.hid hV1
  have HN : Hid (∀ v, (readN L).val v = .agg #[.int .i64 (readV L 0), .int .i64 (readV L 1), .int .i64 (readV L 2), .int .i64 (readV L 3), .int .i64 (readV L 4), .int .i64 (readV L 5), .int .i64 (readV L 6), .int .i64 (readV L 7), .int .i64 (readV L 8), .int .i64 (readV L 9), v, .int .i64 (readV L 11)]) := Lib.hid (fun v => rfl)
  have HX : Hid ((readN L).x = gotX [⟨readV L 12, readV L 13, readV L 14⟩, ⟨readV L 15, readV L 16, readV L 17⟩, ⟨readV L 18, readV L 19, readV L 20⟩]) := Lib.hid rfl
  clear hV1
  go_enter Try.func8, Try.ntmps8
  go_wp2_with (first
    | (refine wp_copy rfl (.tmp 6) (.tmp 7) 22 22 rfl _ _ rfl rfl _ (own_copy_min9 HO.out ao len cap zs HBB.out _) ?_; rintro v2 w2 hO2; rw [hLL.out] at hO2; have HAL : Hid (Arg w2 (some ⟨w.heap.size + 1, 0, none⟩) 64 64 L) := Lib.hid ⟨(by have hb := hO2.bts (by rw [HL64.out]; decide); rw [HL64.out] at hb; exact hb), (fun h => by cases h), Nat.le_refl _, by decide⟩; have HZB := Lib.hid hO2.1; have HT2 := Lib.hid (HTH.out w2 hO2.2.2.2.2); have HBW2 := Lib.hid (HB1.out.trans (hO2.2.2.2.2.mono (Nat.le_succ _))); have HLT : Hid (w.heap.size < w2.heap.size) := Lib.hid (Nat.lt_of_lt_of_le (Nat.lt_succ_self _) (by have h0 := hO2.2.2.2.2.size; rw [World.size_alloc] at h0; exact h0)); have HR0 := Lib.hid (rd_new w2); clear hO2)
    | (go_at_call 19; refine (fromSlots_any ⟨readV L 12, readV L 13, readV L 14⟩ ⟨readV L 15, readV L 16, readV L 17⟩ ⟨readV L 18, readV L 19, readV L 20⟩ _ (HSM.out.1) (HSM.out.2.1) (HSM.out.2.2)).mono ?_; rintro e w8 ⟨xo, m, xc, rfl, hx8, hc8, hn8, hb8⟩; have hr8 := R7.out.later hb8; have R8 := Lib.hid hr8; have X8 := Lib.hid hx8; have C8 := Lib.hid hc8; have N8 := Lib.hid (fun b o s h => Nat.lt_of_lt_of_le R7.out.lt (hn8 b o s h)); have fz := hr8.2.2.2; have q10 := hr8.2.2.1; have q0 := hr8.2.1 0 (by decide) (by decide); have q1 := hr8.2.1 1 (by decide) (by decide); have q2 := hr8.2.1 2 (by decide) (by decide); have q3 := hr8.2.1 3 (by decide) (by decide); have q4 := hr8.2.1 4 (by decide) (by decide); have q5 := hr8.2.1 5 (by decide) (by decide); have q6 := hr8.2.1 6 (by decide) (by decide); have q7 := hr8.2.1 7 (by decide) (by decide); have q8 := hr8.2.1 8 (by decide) (by decide); have q9 := hr8.2.1 9 (by decide) (by decide); have q11 := hr8.2.1 11 (by decide) (by decide); clear hr8 hx8 hc8 hn8 hb8 c12 c13 c14 c15 c16 c17 c18 c19 c20)
    | (go_at_call 16; refine (get9_any _ _ L w2.heap.size v6 _ _ w2 _ HAL.out (by unfold bodyPs; split; decide; split <;> decide) (okPl_body _) (Nat.le_refl _) PA6.out R6.out).mono ?_; rintro e w7 ⟨rfl, hr7⟩; rw [HV1.out] at hr7; have R7 := Lib.hid hr7; have HSM := Lib.hid (readX_small HZB.out); have c12 := hr7.2.1 12 (by decide) (by decide); have c13 := hr7.2.1 13 (by decide) (by decide); have c14 := hr7.2.1 14 (by decide) (by decide); have c15 := hr7.2.1 15 (by decide) (by decide); have c16 := hr7.2.1 16 (by decide) (by decide); have c17 := hr7.2.1 17 (by decide) (by decide); have c18 := hr7.2.1 18 (by decide) (by decide); have c19 := hr7.2.1 19 (by decide) (by decide); have c20 := hr7.2.1 20 (by decide) (by decide); clear hr7)
    | (go_at_call 16; refine (get9_any _ _ L w2.heap.size v4 headPs9 (fun _ => 0) w2 _ HAL.out (by decide) okPl_head (Nat.le_refl _) PA4.out R4.out).mono ?_; rintro e w5 ⟨rfl, hr5⟩; have R5 := Lib.hid hr5; have f5 := hr5.2.1 1 (by decide) (by decide); clear hr5)
    | (go_at_call 17; refine (head9_any w2.heap.size _).mono ?_; rintro e w4 ⟨v4, rfl, hp4, hb4⟩; have PA4 := Lib.hid (hp4.arg (by simp) (fun h => absurd h (by decide))); have R4 := Lib.hid (HR0.out.later hb4); clear hp4 hb4)
    | (go_at_call 18; refine (body9_any w2.heap.size _ _ f5).mono ?_; rintro e w6 ⟨v6, rfl, hp6, hn6, hb6⟩; have PA6 := Lib.hid (hp6.arg R5.out.lt hn6); have R6 := Lib.hid (R5.out.later hb6); clear hp6 hn6 hb6 f5)
    | (refine wpList_store_mid rfl 26 (.tmp 2) (.tmp 21) rfl w.heap.size 0 (List.toArray [.int .i64 (readV L 0), .int .i64 (readV L 1), .int .i64 (readV L 2), .int .i64 (readV L 3), .int .i64 (readV L 4), .int .i64 (readV L 5), .int .i64 (readV L 6), .int .i64 (readV L 7), .int .i64 (readV L 8), .int .i64 (readV L 9), .slice xo m xc, .int .i64 (readV L 11)]) rfl rfl (there_set (there_kept (n := 12) HT2.out (show 0 < 12 by decide) R8.out.1) (Nat.ne_of_gt HLT.out)) (by kernel_rfl) (all_oneCell_toArray (by intro v hv; simp only [List.mem_cons, List.mem_nil_iff, or_false] at hv; rcases hv with rfl | rfl | rfl | rfl | rfl | rfl | rfl | rfl | rfl | rfl | rfl | rfl <;> rfl)) ?_; have RG := World.rangeAt_setCells_same _ w.heap.size 0 [.int .i64 (readV L 0), .int .i64 (readV L 1), .int .i64 (readV L 2), .int .i64 (readV L 3), .int .i64 (readV L 4), .int .i64 (readV L 5), .int .i64 (readV L 6), .int .i64 (readV L 7), .int .i64 (readV L 8), .int .i64 (readV L 9), .slice xo m xc, .int .i64 (readV L 11)] (there_set (k := 10) (v := .slice xo m xc) (there_kept (n := 12) HT2.out (show 0 < 12 by decide) R8.out.1) (Nat.ne_of_gt HLT.out)); have BF := Lib.hid (below_setCells (B := w.heap.size) (g := w.heap.size) (below_setCell9 (HBW2.out.trans (R8.out.1.mono HBW2.out.size)) HLT.out xo m xc) (Nat.le_refl _) [.int .i64 (readV L 0), .int .i64 (readV L 1), .int .i64 (readV L 2), .int .i64 (readV L 3), .int .i64 (readV L 4), .int .i64 (readV L 5), .int .i64 (readV L 6), .int .i64 (readV L 7), .int .i64 (readV L 8), .int .i64 (readV L 9), .slice xo m xc, .int .i64 (readV L 11)] 0); have XF := Lib.hid (XIs.setCells (g := w.heap.size) (fun b o s h => Nat.ne_of_gt (Nat.lt_trans HLT.out (N8.out b o s h))) [.int .i64 (readV L 0), .int .i64 (readV L 1), .int .i64 (readV L 2), .int .i64 (readV L 3), .int .i64 (readV L 4), .int .i64 (readV L 5), .int .i64 (readV L 6), .int .i64 (readV L 7), .int .i64 (readV L 8), .int .i64 (readV L 9), .slice xo m xc, .int .i64 (readV L 11)] 0 _ (X8.out.setCell (g := w2.heap.size) (k := 10) (v := .slice xo m xc) (fun b o s h => Nat.ne_of_gt (N8.out b o s h)))); generalize (w8.setCell ⟨w2.heap.size, 10, none⟩ (.slice xo m xc)).setCells w.heap.size 0 [.int .i64 (readV L 0), .int .i64 (readV L 1), .int .i64 (readV L 2), .int .i64 (readV L 3), .int .i64 (readV L 4), .int .i64 (readV L 5), .int .i64 (readV L 6), .int .i64 (readV L 7), .int .i64 (readV L 8), .int .i64 (readV L 9), .slice xo m xc, .int .i64 (readV L 11)] = W9 at *; have r0 := RG 0 _ rfl; have r1 := RG 1 _ rfl; have r2 := RG 2 _ rfl; have r3 := RG 3 _ rfl; have r4 := RG 4 _ rfl; have r5 := RG 5 _ rfl; have r6 := RG 6 _ rfl; have r7 := RG 7 _ rfl; have r8 := RG 8 _ rfl; have r9 := RG 9 _ rfl; have r10 := RG 10 _ rfl; have r11 := RG 11 _ rfl; clear RG))
  refine bodyPost_ret (v := (readN L).val (.slice xo m xc)) ?_ rfl ⟨xo, m, xc, rfl, by rw [HX.out]; exact XF.out, C8.out, fun b o s h => Nat.le_of_lt (Nat.lt_trans HLT.out (N8.out b o s h)), BF.out⟩
  rw [results_one9 rfl, HN.out]
  go_simp
  try rfl

end Go.Proofs.Ytojfhhmjoledjaa
