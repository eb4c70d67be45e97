/-
  Proved here: what the law's begin makes: a disk with a log, and a journal on it; of a journal that answers as JournalOk says.
  The conditions stand at each theorem.
-/
import Derived.Test.YtbnepjojfaeggaaJrnOk
namespace Go.Proofs.Ytbnepjojfaeggaa
open Go.RowKit
set_option linter.unusedVariables false
set_option linter.unusedSimpArgs false

/-- The disk that begin opens. -/
def beginD (n : Nat) : DM := (barRes (putRes (freshD n) [(1, headBlock ⟨0, 1⟩)]).1).1
theorem begin_put (n : Nat) (h : 64 ≤ n) : (putRes (freshD n) [(1, headBlock ⟨0, 1⟩)]).2 = 0 := by
  unfold putRes
  rw [if_neg (show ¬ (freshD n).off = true from fun h => by cases h)]
  have e1 : badLen [((1 : Int), headBlock ⟨0, 1⟩)] = false := by
    unfold badLen
    simp only [List.any_cons, List.any_nil, Bool.or_false]
    exact decide_eq_false (fun h => h (headBlock_length _))
  have e2 : badAt (freshD n).n [((1 : Int), headBlock ⟨0, 1⟩)] = false := by
    unfold badAt
    simp only [List.any_cons, List.any_nil, Bool.or_false]
    exact decide_eq_false (by show ¬ ((1 : Int) < 0 ∨ (n : Int) ≤ 1); omega)
  rw [e1, e2]
  rfl

theorem begin_bar (n : Nat) (h : 64 ≤ n) : (barRes (putRes (freshD n) [(1, headBlock ⟨0, 1⟩)]).1).2 = 0 ∧ smallD (beginD n) := by
  have e : (putRes (freshD n) [(1, headBlock ⟨0, 1⟩)]).1 = addW (step1 (freshD n)) 1 (headBlock ⟨0, 1⟩) := by
    unfold putRes
    rw [if_neg (show ¬ (freshD n).off = true from fun h => by cases h)]
    have e1 : badLen [((1 : Int), headBlock ⟨0, 1⟩)] = false := by
      unfold badLen
      simp only [List.any_cons, List.any_nil, Bool.or_false]
      exact decide_eq_false (fun h => h (headBlock_length _))
    have e2 : badAt (freshD n).n [((1 : Int), headBlock ⟨0, 1⟩)] = false := by
      unfold badAt
      simp only [List.any_cons, List.any_nil, Bool.or_false]
      exact decide_eq_false (by show ¬ ((1 : Int) < 0 ∨ (n : Int) ≤ 1); omega)
    rw [e1, e2]
    rfl
  unfold beginD
  rw [e]
  refine ⟨rfl, fun k => ?_⟩
  show ([_] : List (List Int)).length ≤ 1000000000
  simp

/-- The law's game: its variable's cells. -/
def GameAt (w : World) (g : Nat) (d j : Addr) (now maybe : Value) (dead : Bool) : Prop :=
  w.cell? ⟨g, 0, none⟩ = some (.pointer (some d)) ∧ w.cell? ⟨g, 1, none⟩ = some (.pointer (some j)) ∧ w.cell? ⟨g, 2, none⟩ = some now ∧ w.cell? ⟨g, 3, none⟩ = some maybe ∧ w.cell? ⟨g, 4, none⟩ = some (.bool dead) ∧ ∀ k, w.frozen? ⟨g, k, none⟩ = false
theorem GameAt.lt {w : World} {g : Nat} {d j : Addr} {now maybe : Value} {dead : Bool} (h : GameAt w g d j now maybe dead) : g < w.heap.size := World.block_lt_of_cell? _ _ h.1
theorem GameAt.kept {w w' : World} {g : Nat} {d j : Addr} {now maybe : Value} {dead : Bool} (h : GameAt w g d j now maybe dead) (hk : w'.heap[g]? = w.heap[g]?) : GameAt w' g d j now maybe dead := by
  obtain ⟨h1, h2, h3, h4, h5, h6⟩ := h
  refine ⟨?_, ?_, ?_, ?_, ?_, fun k => ?_⟩
  · rw [cell_of_heap (p := ⟨g, 0, none⟩) hk]; exact h1
  · rw [cell_of_heap (p := ⟨g, 1, none⟩) hk]; exact h2
  · rw [cell_of_heap (p := ⟨g, 2, none⟩) hk]; exact h3
  · rw [cell_of_heap (p := ⟨g, 3, none⟩) hk]; exact h4
  · rw [cell_of_heap (p := ⟨g, 4, none⟩) hk]; exact h5
  · rw [World.frozen?_of_block (w := w) (a := ⟨g, k, none⟩) hk]; exact h6 k
theorem GameAt.later {w w' : World} {g : Nat} {d j : Addr} {now maybe : Value} {dead : Bool} (h : GameAt w g d j now maybe dead) (hb : Below w.heap.size w w') : GameAt w' g d j now maybe dead := h.kept (hb.block g h.lt)
theorem GameAt.under {w w' : World} {g base : Nat} {d j : Addr} {now maybe : Value} {dead : Bool} (h : GameAt w g d j now maybe dead) (hb : Below base w w') (hg : g < base) : GameAt w' g d j now maybe dead := h.kept (hb.block g hg)
theorem GameAt.setNow {w : World} {g : Nat} {d j : Addr} {now maybe v : Value} {dead : Bool} (h : GameAt w g d j now maybe dead) : GameAt (w.setCell ⟨g, 2, none⟩ v) g d j v maybe dead := by
  obtain ⟨h1, h2, h3, h4, h5, h6⟩ := h
  refine ⟨?_, ?_, World.cell?_setCell_same w _ _ h3, ?_, ?_, fun k => by simpa using h6 k⟩
  all_goals rw [World.cell?_setCell_other (h := by simp)]
  · exact h1
  · exact h2
  · exact h4
  · exact h5

theorem GameAt.setMaybe {w : World} {g : Nat} {d j : Addr} {now maybe v : Value} {dead : Bool} (h : GameAt w g d j now maybe dead) : GameAt (w.setCell ⟨g, 3, none⟩ v) g d j now v dead := by
  obtain ⟨h1, h2, h3, h4, h5, h6⟩ := h
  refine ⟨?_, ?_, ?_, World.cell?_setCell_same w _ _ h4, ?_, fun k => by simpa using h6 k⟩
  all_goals rw [World.cell?_setCell_other (h := by simp)]
  · exact h1
  · exact h2
  · exact h3
  · exact h5

/-- 64 bytes 0, as a text. -/
def zeroS : ByteArray := str (List.replicate 64 0)
/-- What begin hands back: the game, the disk, the journal on it, and the texts that there should be. -/
def Began (M : JM) (JI : World → Addr → Addr → (Nat → Prop) → M.S → Prop) (n : Nat) (s : M.S) (w : World) (e : Ending) (w' : World) : Prop :=
  ∃ g a j F G na nc, e = .returned (.pointer (some ⟨g, 0, none⟩)) ∧ GameAt w' g a j (.slice na n nc) (.slice na n nc) false ∧ DI w' a F (M.openP (beginD n)).1 ∧ JI w' j a G s ∧ (∀ k, G k → ¬ F k) ∧ (∀ k, F k → w.heap.size ≤ k ∧ k < g) ∧ (∀ k, G k → w.heap.size ≤ k ∧ k < g) ∧ w.heap.size ≤ g ∧
    w'.ownsRow (g + 1) 9 1 (.slice na n nc) n (strs (List.replicate n zeroS)) ∧ Below w.heap.size w w'

set_option maxRecDepth 100000 in
set_option maxHeartbeats 3200000 in
theorem begin_any {M : JM} {JI : World → Addr → Addr → (Nat → Prop) → M.S → Prop} (K : JournalOk M JI) (n : Nat) (w : World) (h1 : 64 ≤ n) (h2 : n ≤ 480) (s : M.S) (hs : (M.openP (beginD n)).2 = (some s, 0)) :
    Calls Try.prog 7 #[.int .i64 n] w (Began M JI n s w) := by
  have c := diskOk.new_ok n w (by omega) h2
  have cH := fun W => put08_any ⟨0, 1⟩ W ⟨by unfold i64w; decide, by unfold i64w; decide⟩
  rw [show headOut ⟨0, 1⟩ = headBlock ⟨0, 1⟩ from rfl, show headErr ⟨0, 1⟩ = 0 from rfl] at cH
  unfold PHead.val at cH
  have HHL : Hid ((headBlock ⟨0, 1⟩).length = 64) := Lib.hid (headBlock_length _)
  go_enter Try.func7, Try.ntmps7
  have HB1 := Lib.hid (begin_bar n h1)
  have HP1 := Lib.hid (begin_put n h1)
  have HS := Lib.hid hs
  clear hs
  go_wp2_with (first
    | (go_at_call 17; refine (K.opens HD5.out HB1.out.2).mono ?_; rintro e w6 ⟨F6, p, rfl, hD6, hG6, _, hj6⟩; obtain ⟨j, G, rfl, hJ6, hJn, hJF⟩ := hj6 s (by rw [HS.out]); rw [HS.out]; have HD6 := Lib.hid hD6; have HJ6 := Lib.hid (And.intro hJ6 hJF); have B6 : Hid (Below w.heap.size w w6) := Lib.hid (hG6.below B5.out B5.out.size HF5.out); have HF6 : Hid (∀ k, F6 k → w.heap.size ≤ k) := Lib.hid (fun k hk => (hG6.2.2.2.2.2 k hk).elim (HF5.out k) (fun h => Nat.le_trans B5.out.size h)); have HJN : Hid (∀ k, G k → w.heap.size ≤ k) := Lib.hid (fun k hk => Nat.le_trans B5.out.size (hJn k hk)); clear hD6 hG6 hj6 hJ6 hJn hJF)
    | (go_at_call 26; refine (diskOk.barrier HD4.out).mono ?_; rintro e w5 ⟨F5, rfl, hD5, hG5⟩; rw [HB1.out.1]; have HD5 : Hid (DI w5 a F5 (beginD n)) := Lib.hid hD5; have B5 : Hid (Below w.heap.size w w5) := Lib.hid (hG5.below B4.out B4.out.size HF4.out); have HF5 : Hid (∀ k, F5 k → w.heap.size ≤ k) := Lib.hid (fun k hk => (hG5.2.2.2.2.2 k hk).elim (HF4.out k) (fun h => Nat.le_trans B4.out.size h)); clear hD5 hG5)
    | (go_at_call 23; refine (diskOk.put (fun k => w1.heap.size ≤ k) _ 1 1 _ (diskOk.later HD.out B3.out) HLI.out (fun k hk => by have := diskOk.lt HD.out k hk; omega) (fun k _ => by show 1 + 1 ≤ 1099511627776; decide)).mono ?_; rintro e w4 ⟨F4, rfl, hD4, hG4⟩; rw [HP1.out]; have HD4 := Lib.hid hD4; have B4 : Hid (Below w.heap.size w w4) := Lib.hid (hG4.below (B1.out.trans (B3.out.mono B1.out.size)) (B1.out.trans (B3.out.mono B1.out.size)).size HFS.out); have HF4 : Hid (∀ k, F4 k → w.heap.size ≤ k) := Lib.hid (fun k hk => (hG4.2.2.2.2.2 k hk).elim (HFS.out k) (fun h => Nat.le_trans (B1.out.trans (B3.out.mono B1.out.size)).size h)); clear hD4 hG4)
    | (go_at_call 25; refine (cH _).mono ?_; rintro e w2 ⟨v2, rfl, ⟨ao2, p2, rfl, hA2, hfr2⟩, hb2⟩; rw [HHL.out] at hA2; rw [HHL.out]; obtain ⟨b2, o2, rfl, hb2g, _⟩ := hfr2.resolve_left (fun e => by have := HHL.out; rw [e] at this; simp at this); have HLI : Hid (ListIs (w2.alloc (.cells #[.int .i64 1, .slice (some ⟨b2, o2, none⟩) (64 : Nat) p2] 48)) (fun k => w1.heap.size ≤ k) (some ⟨w2.heap.size, 0, none⟩) 1 [(1, headBlock ⟨0, 1⟩)]) := Lib.hid (list_one hA2 (by decide) (fun b' o s e => by cases e; exact hb2g) hb2.size); have B3 : Hid (Below w1.heap.size w1 (w2.alloc (.cells #[.int .i64 1, .slice (some ⟨b2, o2, none⟩) (64 : Nat) p2] 48))) := Lib.hid (hb2.alloc hb2.size _); clear hA2 hfr2 hb2 hb2g)
    | (go_at_call 19; refine c.mono ?_; rintro e w1 ⟨a, F, rfl, hD, hF, hb1⟩; have HD := Lib.hid hD; have HFS := Lib.hid hF; have B1 := Lib.hid hb1; clear hD hF hb1))
  have HG0 : Hid (GameAt (w6.alloc (.cells #[.pointer (some a), .pointer (some j), .slice none 0 0, .slice none 0 0, .bool false] 36)) w6.heap.size a j (.slice none 0 0) (.slice none 0 0) false) := Lib.hid (by
    refine ⟨?_, ?_, ?_, ?_, ?_, fun k => by rw [World.frozen?_alloc_mark]; simp⟩ <;> (rw [World.cell?_alloc_new]; rfl))
  have BG0 : Hid (Below w6.heap.size w6 (w6.alloc (.cells #[.pointer (some a), .pointer (some j), .slice none 0 0, .slice none 0 0, .bool false] 36))) := Lib.hid ((Below.refl _ _).alloc (Nat.le_refl _) _)
  obtain ⟨Z, hZ⟩ : ∃ Z : ByteArray, str (List.replicate 64 0) = Z := ⟨_, rfl⟩
  have HZZ : Hid (Z = zeroS) := Lib.hid hZ.symm
  go_loopw [9] (fun iv wr => ∃ (i : Nat) (vv : Value), iv = .int .i64 (i : Int) ∧ i ≤ n ∧ Hid (GameAt wr w6.heap.size a j vv (.slice none 0 0) false) ∧ Hid (wr.ownsRow (w6.heap.size + 1) 9 1 vv i (strs (List.replicate i Z))) ∧ Hid (Below w6.heap.size w6 wr)) (fun iv _ => n - (intOf iv).toNat)
  case atStart => exact ⟨0, _, rfl, Nat.zero_le _, HG0, Lib.hid (owns_nil_r _ _ _ _), BG0⟩
  case round =>
    obtain ⟨i, vv, rfl, hi, HG, HO, HB⟩ := hrel
    have c2 := HG.out.2.2.1
    have f2 := HG.out.2.2.2.2.2 2
    by_cases hlt : i < n
    · have i1 : (i : Int) < (n : Int) := by omega
      have hmk := run_make_bytes wr.drew 64 (by decide)
      rw [show ((64 : Nat) : Int) = 64 from rfl] at hmk
      have hAR := made_arg wr.drew 64 (by decide)
      obtain ⟨gk, hgk⟩ : ∃ gk, wr.drew.heap.size = gk := ⟨_, rfl⟩
      obtain ⟨W5, hW5⟩ : ∃ W5, wr.drew.alloc (.cells (madeCells #[.int .u8 0] 64) 5) = W5 := ⟨_, rfl⟩
      have B5' : Hid (Below wr.heap.size wr W5) := Lib.hid (by rw [← hW5]; exact ((Below.refl _ _).drew).alloc (Nat.le_refl _) _)
      rw [hW5] at hmk hAR
      rw [hgk] at hmk hAR
      have hcv := str_bytes hAR.1 (cap := 64)
      rw [hZ] at hcv
      have c5 := cell_later B5'.out c2
      have c7 : (W5.alloc (.cells #[.string Z] 9)).cell? ⟨w6.heap.size, 2, none⟩ = some vv := cell_later ((Below.refl _ _).alloc (Nat.le_refl _) _) c5
      have HST : Hid (strs (List.replicate (i + 1) Z) = strs (List.replicate i Z) ++ [.string Z]) := Lib.hid (by rw [List.replicate_succ', strs_append]; rfl)
      have HSZ : Hid (w6.heap.size + 1 ≤ W5.heap.size) := Lib.hid (Nat.le_trans HG.out.lt B5'.out.size)
      clear hW5 hgk hAR
      go_wp2_with fail
      go_region_law (refine step_append_bg (o := ⟨some 71, _, _, _, _, _⟩) elemSR rfl (.tmp 67) (.tmp 70) rfl (w6.heap.size + 1) i vv _ rfl ((owns_later_r HO.out B5'.out).alloc _) ⟨W5.heap.size, 0, none⟩ 1 1 [.string Z] rfl rfl (news_f W5 [.string Z] _) (by intro u hu; simp only [List.mem_cons, List.mem_nil_iff, or_false] at hu; rcases hu with rfl; rfl) (by omega) (by omega) (by have := HSZ.out; simp; omega) ?_; intro v8 w8 hown8 _ hb8; obtain ⟨ao8, cp8, rfl⟩ := owns_shape_r hown8; have HO8 := Lib.hid hown8; have HG8 := Lib.hid ((HG.out.later (B5'.out.alloc B5'.out.size _)).under hb8 (by omega)); have c8 := HG8.out.2.2.1; have f8 := HG8.out.2.2.2.2.2 2; have B8 : Hid (Below w6.heap.size w6 w8) := Lib.hid ((HB.out.trans ((B5'.out.alloc B5'.out.size _).mono HB.out.size)).trans (hb8.mono (by omega))); clear hown8 hb8)
      all_goals
        go_wp2_with fail
        go_roundw
        case rel => exact ⟨i + 1, _, by go_num, by omega, Lib.hid HG8.out.setNow, Lib.hid (by rw [HST.out]; exact owns_setCell HO8.out (by omega)), Lib.hid (B8.out.setCell (p := ⟨w6.heap.size, 2, none⟩) (Nat.le_refl _) _)⟩
        case measure => simp [intOf]; omega
    · obtain rfl : i = n := by omega
      obtain ⟨na, nc, rfl⟩ := owns_shape_r HO.out
      have c3 := HG.out.2.2.2.1
      have f3 := HG.out.2.2.2.2.2 3
      go_wp2_with fail
      go_ret
      have bf : Below w6.heap.size w6 (wr.setCell ⟨w6.heap.size, 3, none⟩ (.slice na i nc)) := HB.out.setCell (p := ⟨w6.heap.size, 3, none⟩) (Nat.le_refl _) _
      exact ⟨w6.heap.size, a, j, F6, G, na, nc, rfl, HG.out.setMaybe, diskOk.later HD6.out bf, K.kept HJ6.out.1 (fun k hk => bf.block k (K.lt HJ6.out.1 k hk)) bf.size, HJ6.out.2, fun k hk => ⟨HF6.out k hk, diskOk.lt HD6.out k hk⟩, fun k hk => ⟨HJN.out k hk, K.lt HJ6.out.1 k hk⟩, B6.out.size, by rw [← HZZ.out]; exact owns_setCell HO.out (by omega), B6.out.trans (bf.mono B6.out.size)⟩

end Go.Proofs.Ytbnepjojfaeggaa
