/-
  Proved here: what the landed journal's Look answers.
  The conditions stand at each theorem.
-/
import Derived.Test.YtbnepjojfaeggaaJrLook
import Derived.StillTailTactics
namespace Go.Proofs.Ytbnepjojfaeggaa
open Go.RowKit
set_option linter.unusedVariables false
set_option linter.unusedSimpArgs false

/-- Blocks laid over rows, in order. -/
def layR (R : List (List Int)) (ws : List (Int × List Int)) : List (List Int) := ws.foldl (fun r p => r.set p.1.toNat p.2) R
theorem layR_length (R : List (List Int)) : ∀ ws : List (Int × List Int), (layR R ws).length = R.length := by
  intro ws
  unfold layR
  induction ws generalizing R with
  | nil => rfl
  | cons p r ih => rw [List.foldl_cons, ih, List.length_set]
theorem layR_snoc {R : List (List Int)} {ws : List (Int × List Int)} {i : Nat} {a : Int} {zs : List Int} (h : ws[i]? = some (a, zs)) : layR R (ws.take (i + 1)) = (layR R (ws.take i)).set a.toNat zs := by
  unfold layR
  rw [List.take_add_one, h, List.foldl_append]
  rfl
/-- What a log says belongs to no block below the first. -/
theorem tx_in {bs : List (List Int)} {a : Nat} {s : Int} {l : List (Int × List Int)} (h : txAt bs a s = some l) : ∀ p ∈ l, 0 ≤ p.1 := by
  unfold txAt at h
  split at h
  · next hc =>
    have hp := (soundD_parts (isBeg_block hc.1).2.1).2.1
    simp only [Option.some.injEq] at h
    subst h
    intro p hm
    obtain ⟨k, hk, rfl⟩ := List.mem_map.1 hm
    have hk2 := List.mem_range.1 hk
    show 0 ≤ (readD (bs.getD a [])).to.getD k 0
    rw [List.getD_eq_getElem?_getD, List.getElem?_eq_getElem hk2]
    exact (hp _ (List.getElem_mem hk2)).1
  · cases h
theorem find_in (bs : List (List Int)) : ∀ (k a : Nat) (s : Int), ∀ l ∈ (findL bs k a s).1, ∀ p ∈ l, 0 ≤ p.1
  | 0, a, s => fun l h => by simp [findL] at h
  | k + 1, a, s => fun l h => by
    unfold findL at h
    cases hx : txAt bs a s with
    | none => rw [hx] at h; simp at h
    | some y =>
      rw [hx] at h
      rcases List.mem_cons.1 h with rfl | h
      · exact tx_in hx
      · exact find_in bs k _ _ l h
theorem lookW_in (D : DM) : ∀ p ∈ lookW D, 0 ≤ p.1 ∧ p.1.toNat < (lookR D).length := by
  intro p h
  unfold lookW at h
  unfold lookR
  by_cases he : lookE D = 0
  · rw [if_pos he] at h
    rw [if_pos he, curs_length]
    unfold flatK at h
    obtain ⟨l, hl, hp⟩ := List.mem_flatten.1 h
    obtain ⟨l0, hl0, rfl⟩ := List.mem_map.1 hl
    unfold keepW at hp
    obtain ⟨hp1, hp2⟩ := List.mem_filter.1 hp
    rw [decide_eq_true_eq] at hp2
    have h0 : 0 ≤ p.1 := by
      unfold lookF foundOut at hl0
      split at hl0
      · exact find_in _ _ _ _ _ hl0 _ hp1
      · simp at hl0
    exact ⟨h0, by omega⟩
  · rw [if_neg he] at h
    simp at h

theorem BOwn.set {base lo g n cap k db off c : Nat} {w : World} {bs : List (List Int)} {zs : List Int} (h : BOwn base lo w (.slice (some ⟨g, 0, none⟩) n cap) bs) (hk : k < bs.length) (hd : lo ≤ db ∧ db < w.heap.size) (hne : db ≠ g) (hA : Arg w (some ⟨db, off, none⟩) 64 c zs) :
    BOwn base lo (w.setCell ⟨g, k, none⟩ (.slice (some ⟨db, off, none⟩) 64 c)) (.slice (some ⟨g, 0, none⟩) n cap) (bs.set k zs) := by
  obtain ⟨xs, ho, hx⟩ := h
  have hn : n = bs.length := by
    rcases ho.2 with ⟨h', _⟩ | ⟨g', cap', cur, h', _⟩
    · simp at h'
    · simp only [Value.slice.injEq] at h'
      exact h'.2.1
  subst hn
  refine ⟨xs.set k (.slice (some ⟨db, off, none⟩) 64 c), by rw [List.length_set]; exact (ho.stored k _).1, fun j ys hj => ?_⟩
  rw [List.getElem?_set] at hj
  by_cases e : k = j
  · subst e
    rw [if_pos rfl, if_pos hk] at hj
    cases hj
    refine ⟨db, off, c, ?_, ⟨hd.1, by rw [set_size]; exact hd.2⟩, fun e => hne ?_, hA.kept (fun b o s e => by cases e; exact set_heap w g k _ hne)⟩
    · rw [List.getElem?_set_self (by rw [ho.1]; omega)]
    · simp only [Value.ownBlock, Option.some.injEq] at e
      exact e.symm
  · rw [if_neg e] at hj
    obtain ⟨d, o, c', c1, c2, c3, c4⟩ := hx j ys hj
    have hdg : d ≠ g := fun e => c3 (by rw [e]; rfl)
    exact ⟨d, o, c', by rw [List.getElem?_set_ne e]; exact c1, ⟨c2.1, by rw [set_size]; exact c2.2⟩, c3, c4.kept (fun b o s e => by cases e; exact set_heap w g k _ hdg)⟩

theorem BOwn.new {base : Nat} {w : World} {v : Value} {bs : List (List Int)} (h : BOwn base base w v bs) : ∃ ao len cap, v = .slice ao len cap ∧ RowsNew w base ao len cap bs := by
  by_cases h0 : 0 < bs.length
  · obtain ⟨g, cap, rfl, hc, hg, _, hx⟩ := h.form h0
    refine ⟨_, _, cap, rfl, rfl, hc, Or.inr ⟨g, 0, rfl, hg.1, fun j hj => ?_⟩⟩
    obtain ⟨d, o, c, c1, c2, c3⟩ := hx j _ (List.getElem?_eq_getElem hj)
    refine ⟨_, _, c, by rw [Nat.zero_add]; exact c1, ?_, c3.2.2.1, fun b o' s e _ => by cases e; exact c2.1⟩
    rw [List.getD_eq_getElem?_getD, List.getElem?_eq_getElem hj]
    exact c3.1
  · obtain ⟨xs, ho, hx⟩ := h
    rcases ho.2 with ⟨rfl, hz⟩ | ⟨g, cap, cur, rfl, _, _, hc, _⟩
    · exact ⟨none, 0, 0, rfl, by omega, Nat.le_refl _, Or.inl rfl⟩
    · exact ⟨_, _, cap, rfl, rfl, hc, Or.inl (by omega)⟩

theorem WAt.at {b0 T R i : Nat} {w : World} {v : Value} {ws : List (Int × List Int)} {a : Int} {zs : List Int} (h : WAt b0 T R w v ws) (hi : ws[i]? = some (a, zs)) : ∃ r cap, v = .slice (some ⟨r, 0, none⟩) ws.length cap ∧ (R ≤ r ∧ r < w.heap.size) ∧ w.cell? ⟨r, i * 2, none⟩ = some (.int .i64 a) ∧ I64 a ∧
    ∃ db off c, w.cell? ⟨r, i * 2 + 1, none⟩ = some (.slice (some ⟨db, off, none⟩) 64 c) ∧ (b0 ≤ db ∧ db < T) ∧ Arg w (some ⟨db, off, none⟩) 64 c zs := by
  obtain ⟨ht, xs, ho, hx⟩ := h
  have hl := (List.getElem?_eq_some_iff.1 hi).1
  rcases ho.2 with ⟨_, h0⟩ | ⟨g, cap, cur, hv, hb, _, hc, _⟩
  · omega
  · obtain ⟨c1, c2, d, o, c, c3, c4, c6⟩ := hx i a zs hi
    have e1 := ho.cells (g := g) (by rw [hv]; rfl) _ _ c1
    have e2 := ho.cells (g := g) (by rw [hv]; rfl) _ _ c3
    rw [Go.WideShapes.add_plain, Nat.zero_add] at e1 e2
    exact ⟨g, cap, hv, ho.lt g (by rw [hv]; rfl), e1, c2, d, o, c, e2, c4, c6⟩

/-- While the blocks are laid over the rows. -/
def Laid (w : World) (R : List (List Int)) (ws : List (Int × List Int)) (bv wv : Value) (B T q : Nat) (ha hb : Int) (i : Nat) (wr : World) : Prop :=
  BOwn w.heap.size w.heap.size wr bv (layR R (ws.take i)) ∧ WAt B T T wr wv ws ∧ V4 wr q bv wv (.int .i64 ha) (.int .i64 hb) ∧ Below w.heap.size w wr ∧ T ≤ q

set_option maxRecDepth 100000 in
set_option maxHeartbeats 3200000 in
theorem looks_any {w : World} {a : Addr} {F : Nat → Prop} {D : DM} (hD : DI w a F D) :
    Calls Try.prog 21 #[.pointer (some a)] w fun e w' => ∃ ao len cap, e = .returned (.tuple #[.slice ao len cap, .int .i64 (lookE D)]) ∧ RowsNew w' w.heap.size ao len cap (layR (lookR D) (lookW D)) ∧ Below w.heap.size w w' := by
  have cL := look_any hD
  have HW := Lib.hid (lookW_in D)
  have HWL := Lib.hid (lookW_len D)
  obtain ⟨R, hR⟩ : ∃ R, lookR D = R := ⟨_, rfl⟩
  obtain ⟨ws, hws⟩ : ∃ ws, lookW D = ws := ⟨_, rfl⟩
  unfold HandedL at cL
  rw [hR, hws] at cL HW
  rw [hws] at HWL
  rw [hR, hws]
  generalize lookE D = E at *
  obtain ⟨ha, hb, hH⟩ : ∃ ha hb, lookH D = (ha, hb) := ⟨_, _, rfl⟩
  rw [hH] at cL
  clear hR hws hH hD
  go_enter Try.func21, Try.ntmps21
  go_wp2_with (go_at_call 33; refine cL.mono ?_; rintro e w1 ⟨bv, wv, B, T, rfl, hbo, hB, hwa, hb1⟩; have HBO := Lib.hid hbo; have HB := Lib.hid hB; have HWA := Lib.hid hwa; have HB1 := Lib.hid hb1; obtain ⟨ws0, wc, rfl⟩ : ∃ ao cap, wv = .slice ao ws.length cap := (by obtain ⟨ao, cap, h, _⟩ := hwa.list (by have := HWL.out; omega); exact ⟨ao, cap, h⟩); obtain ⟨bo, bc, rfl⟩ := owns_shape_r hbo.choose_spec.1; clear hbo hB hwa hb1)
  have H1 : Hid (Laid w R ws (.slice bo R.length bc) (.slice ws0 ws.length wc) B T w1.heap.size ha hb 0 (w1.alloc (.cells #[.slice bo R.length bc, .slice ws0 ws.length wc, .int .i64 ha, .int .i64 hb] 86))) := Lib.hid (by
    have b2 : Below w1.heap.size w1 (w1.alloc (.cells #[.slice bo R.length bc, .slice ws0 ws.length wc, .int .i64 ha, .int .i64 hb] 86)) := (Below.refl _ _).alloc (Nat.le_refl _) _
    exact ⟨HBO.out.later b2, HWA.out.later b2, v4_new _ _ _ _ _ _, HB1.out.trans (b2.mono HB1.out.size), HWA.out.1.2⟩)
  obtain ⟨q, hq⟩ : ∃ q, w1.heap.size = q := ⟨_, rfl⟩
  rw [hq]
  rw [hq] at H1
  clear hq cL
  go_loopw [16] (fun iv wr => ∃ i : Nat, iv = .int .i64 (i : Int) ∧ i ≤ ws.length ∧ Hid (Laid w R ws (.slice bo R.length bc) (.slice ws0 ws.length wc) B T q ha hb i wr)) (fun iv _ => ws.length - (intOf iv).toNat)
  case atStart => exact ⟨0, rfl, Nat.zero_le _, H1⟩
  case round =>
    obtain ⟨i, rfl, hi, HX⟩ := hrel
    by_cases hlt : i < ws.length
    · have i1 : (i : Int) < (ws.length : Int) := by omega
      have i0 : (0 : Int) ≤ (i : Int) := by omega
      have h800 := HWL.out
      obtain ⟨⟨a5, zs⟩, hx⟩ : ∃ p, ws[i]? = some p := ⟨_, List.getElem?_eq_getElem hlt⟩
      obtain ⟨ha0, hk⟩ := HW.out _ (List.mem_of_getElem? hx)
      obtain ⟨k, rfl⟩ : ∃ k : Nat, a5 = (k : Int) := ⟨a5.toNat, by simp only at ha0; omega⟩
      simp only [Int.toNat_natCast] at hk
      obtain ⟨r, rc, hv, hr, c0, _, db, off, c, c1, hdb, hA⟩ := HX.out.2.1.at hx
      simp only [Value.slice.injEq, true_and] at hv
      obtain ⟨rfl, rfl⟩ := hv
      have hll := layR_length R (ws.take i)
      obtain ⟨g, gc, hbv, hgc, hg, hfz, hcell⟩ := HX.out.1.form (by omega)
      rw [hll] at hbv
      simp only [Value.slice.injEq, true_and] at hbv
      obtain ⟨rfl, rfl⟩ := hbv
      obtain ⟨d5, o5, c5, e4, y1, y2⟩ := hcell k _ (List.getElem?_eq_getElem (by omega))
      have hgB := HB.out.1 g rfl
      have hBT := HB.out.2
      have hTq := HX.out.2.2.2.2
      have b2 : Below wr.heap.size wr (wr.alloc (.cells #[.int .i64 (k : Int), .slice (some ⟨db, off, none⟩) 64 c] 48)) := (Below.refl _ _).alloc (Nat.le_refl _) _
      obtain ⟨W2, hW2⟩ : ∃ W2, wr.alloc (.cells #[.int .i64 (k : Int), .slice (some ⟨db, off, none⟩) 64 c] 48) = W2 := ⟨_, rfl⟩
      have hz := rc_new wr (.int .i64 (k : Int)) (.slice (some ⟨db, off, none⟩) 64 c) 48
      rw [hW2] at hz b2
      obtain ⟨z0, z1, _⟩ := hz
      have e5 := cell_later b2 e4
      have f5 : W2.frozen? ⟨g, k, none⟩ = false := by rw [b2.frozen (p := ⟨g, k, none⟩) hg.2]; exact hfz k
      have vq := (HX.out.2.2.1.later b2).1
      have hkn : (k : Int) < (R.length : Int) := by omega
      have hk0 : (0 : Int) ≤ (k : Int) := by omega
      have HN : Hid (Laid w R ws (.slice (some ⟨g, 0, none⟩) R.length bc) (.slice (some ⟨r, 0, none⟩) ws.length wc) B T q ha hb (i + 1) (W2.setCell ⟨g, k, none⟩ (.slice (some ⟨db, off, none⟩) 64 c))) := Lib.hid (by
        obtain ⟨x1, x2, x3, x4, x5⟩ := HX.out
        refine ⟨?_, (x2.later b2).kept k _ hgB hBT.2, (x3.later b2).kept (set_heap W2 g k _ (by omega)), (x4.trans (b2.mono x4.size)).setCell (p := ⟨g, k, none⟩) hg.1 _, x5⟩
        rw [layR_snoc hx, Int.toNat_natCast]
        exact (x1.later b2).set (by omega) ⟨by omega, by have := (hA.later b2); exact arg_lt this⟩ (by omega) (hA.later b2))
      clear y1 y2 hcell
      clear hx hk hA hdb hfz hg hgc hr hll e4 b2 hgB hBT hTq ha0
      go_wp2_with fail
      go_roundw
      case rel => exact ⟨i + 1, by go_num, by omega, HN⟩
      case measure => simp [intOf]; omega
    · obtain rfl : i = ws.length := by omega
      have hv := HX.out.2.2.1.1
      have hall : ws.take ws.length = ws := List.take_length
      have ho := HX.out.1
      rw [hall] at ho
      obtain ⟨ao, len, cap, hav, hrn⟩ := ho.new
      have HR := Lib.hid hrn
      have HE := Lib.hid hav
      have HB5 := Lib.hid HX.out.2.2.2.1
      clear ho hall hrn hav
      go_wp2_with fail
      go_ret2
      exact ⟨ao, len, cap, by rw [← HE.out]; rfl, HR.out, HB5.out⟩

end Go.Proofs.Ytbnepjojfaeggaa
