/-
  Proved here: what the landed journal's within answers; lists of writes that are made of found ones.
  The conditions stand at each theorem.
-/
import Derived.Test.YtbnepjojfaeggaaJrWrite
import Derived.StillTailTactics
namespace Go.Proofs.Ytbnepjojfaeggaa
open Go.RowKit
set_option linter.unusedVariables false
set_option linter.unusedSimpArgs false

/-- A list of writes of the call's own, its row in blocks from R on, its texts in blocks from b0 on and below T. -/
def WAt (b0 T R : Nat) (w : World) (v : Value) (ws : List (Int × List Int)) : Prop :=
  (T ≤ R ∧ R ≤ w.heap.size) ∧ ∃ xs, w.ownsRow R 48 2 v ws.length xs ∧ ∀ (j : Nat) (a : Int) (zs : List Int), ws[j]? = some (a, zs) → xs[j * 2]? = some (.int .i64 a) ∧ I64 a ∧
    ∃ db off cap, xs[j * 2 + 1]? = some (.slice (some ⟨db, off, none⟩) 64 cap) ∧ (b0 ≤ db ∧ db < T) ∧ Arg w (some ⟨db, off, none⟩) 64 cap zs
theorem WAt.nil (b0 T R : Nat) (w : World) (h : T ≤ R) (h2 : R ≤ w.heap.size) : WAt b0 T R w (.slice none 0 0) [] := ⟨⟨h, h2⟩, [], owns_nil_r _ _ _ _, fun j a zs h => by simp at h⟩
theorem WAt.later {b0 T R : Nat} {w w' : World} {v : Value} {ws : List (Int × List Int)} (h : WAt b0 T R w v ws) (hb : Below w.heap.size w w') : WAt b0 T R w' v ws := by
  obtain ⟨ht, xs, ho, hx⟩ := h
  refine ⟨⟨ht.1, Nat.le_trans ht.2 hb.size⟩, xs, owns_later_r ho hb, fun j a zs hj => ?_⟩
  obtain ⟨c1, c2, d, o, c, c3, c4, c6⟩ := hx j a zs hj
  exact ⟨c1, c2, d, o, c, c3, c4, c6.later hb⟩
theorem WAt.join {b0 T R : Nat} {w w4 : World} {v v' : Value} {ws ws2 : List (Int × List Int)} {xs xs2 : List Value}
    (ht : T ≤ R ∧ R ≤ w.heap.size) (h1 : w.ownsRow R 48 2 v ws.length xs) (h2 : ∀ (j : Nat) (a : Int) (zs : List Int), ws[j]? = some (a, zs) → xs[j * 2]? = some (.int .i64 a) ∧ I64 a ∧ ∃ db off cap, xs[j * 2 + 1]? = some (.slice (some ⟨db, off, none⟩) 64 cap) ∧ (b0 ≤ db ∧ db < T) ∧ Arg w (some ⟨db, off, none⟩) 64 cap zs)
    (hx2 : xs2.length = ws2.length * 2) (h4 : ∀ (j : Nat) (a : Int) (zs : List Int), ws2[j]? = some (a, zs) → xs2[j * 2]? = some (.int .i64 a) ∧ I64 a ∧ ∃ db off cap, xs2[j * 2 + 1]? = some (.slice (some ⟨db, off, none⟩) 64 cap) ∧ (b0 ≤ db ∧ db < T) ∧ Arg w (some ⟨db, off, none⟩) 64 cap zs)
    (hown : w4.ownsRow R 48 2 v' (ws.length + ws2.length) (xs ++ xs2)) (hg : w.grownBy w4 v.ownBlock) : WAt b0 T R w4 v' (ws ++ ws2) := by
  have hxl : xs.length = ws.length * 2 := h1.1
  have hvd : ∀ db, db < T → v.ownBlock ≠ some db := fun db hd e => by have := (h1.lt db e).1; omega
  refine ⟨⟨ht.1, Nat.le_trans ht.2 hg.size⟩, _, by rw [List.length_append]; exact hown, fun j b ys hj => ?_⟩
  by_cases hjl : j < ws.length
  · rw [List.getElem?_append_left hjl] at hj
    obtain ⟨c1, c2, d, o, c, c3, c4, c6⟩ := h2 j b ys hj
    exact ⟨by rw [List.getElem?_append_left (by omega)]; exact c1, c2, d, o, c, by rw [List.getElem?_append_left (by omega)]; exact c3, c4, arg_grown c6 hg (hvd d c4.2)⟩
  · rw [List.getElem?_append_right (by omega)] at hj
    obtain ⟨c1, c2, d, o, c, c3, c4, c6⟩ := h4 _ b ys hj
    have hj2 : j - ws.length < ws2.length := (List.getElem?_eq_some_iff.1 hj).1
    exact ⟨by rw [List.getElem?_append_right (by omega), show j * 2 - xs.length = (j - ws.length) * 2 from by omega]; exact c1, c2, d, o, c, by rw [List.getElem?_append_right (by omega), show j * 2 + 1 - xs.length = (j - ws.length) * 2 + 1 from by omega]; exact c3, c4, arg_grown c6 hg (hvd d c4.2)⟩
theorem WAt.mono {b0 T R R' : Nat} {w : World} {v : Value} {ws : List (Int × List Int)} (h : WAt b0 T R w v ws) (h1 : T ≤ R') (h2 : R' ≤ R) : WAt b0 T R' w v ws := by
  obtain ⟨ht, xs, ho, hx⟩ := h
  exact ⟨⟨h1, by omega⟩, xs, owns_mono_r ho h2, hx⟩
/-- Such a list, handed on to a disk. -/
theorem WAt.list {b0 T R : Nat} {w : World} {v : Value} {ws : List (Int × List Int)} (h : WAt b0 T R w v ws) (hl : ws.length ≤ 140737488351232) : ∃ ao cap, v = .slice ao ws.length cap ∧ ListIs w (fun k => b0 ≤ k ∧ k < w.heap.size) ao ws.length ws := by
  obtain ⟨ht, xs, ho, hx⟩ := h
  rcases ho.2 with ⟨rfl, h0⟩ | ⟨g, cap, cur, hv, hb, _, hc, _⟩
  · exact ⟨none, 0, by rw [h0], rfl, by omega, Or.inl h0⟩
  · have hlt := ho.lt g (by rw [hv]; rfl)
    by_cases h0 : ws.length = 0
    · exact ⟨_, cap, hv, rfl, by omega, Or.inl h0⟩
    · have hbt : b0 ≤ T := by
        obtain ⟨p, hp⟩ : ∃ p, ws[0]? = some p := ⟨_, List.getElem?_eq_getElem (by omega)⟩
        obtain ⟨_, _, d, _, _, _, c4, _⟩ := hx 0 p.1 p.2 hp
        omega
      refine ⟨_, cap, hv, rfl, by omega, Or.inr ⟨g, 0, rfl, ⟨by omega, hlt.2⟩, fun j a zs hj => ?_⟩⟩
      obtain ⟨c1, c2, d, o, c, c3, c4, c6⟩ := hx j a zs hj
      have e1 := ho.cells (g := g) (by rw [hv]; rfl) _ _ c1
      have e2 := ho.cells (g := g) (by rw [hv]; rfl) _ _ c3
      rw [Go.WideShapes.add_plain, Nat.mul_comm] at e1
      rw [Go.WideShapes.add_plain, ← Nat.add_assoc, Nat.mul_comm] at e2
      exact ⟨e1, c2, _, _, _, e2, c6, fun b' o' s' e _ => by cases e; exact ⟨c4.1, by omega⟩⟩

/-- What within keeps. -/
def keepW (n : Int) (l : List (Int × List Int)) : List (Int × List Int) := l.filter fun p => decide (p.1 < n)
theorem keepW_snoc {n : Int} {l : List (Int × List Int)} {i : Nat} {p : Int × List Int} (h : l[i]? = some p) : keepW n (l.take (i + 1)) = keepW n (l.take i) ++ (if p.1 < n then [p] else []) := by
  unfold keepW
  rw [List.take_add_one, h, List.filter_append]
  simp [List.filter_cons]
theorem keepW_le (n : Int) (l : List (Int × List Int)) : (keepW n l).length ≤ l.length := List.length_filter_le _ _

set_option maxRecDepth 100000 in
set_option maxHeartbeats 3200000 in
theorem jwithin_any {w : World} {lo : Option Addr} {m cap b0 T : Nat} {l : List (Int × List Int)} (n : Int) (hn : I64 n) (hW : WIn (fun k => b0 ≤ k ∧ k < T) w lo m l) (hT : T ≤ w.heap.size) (hm : m ≤ 1000) :
    Calls Try.prog 57 #[.slice lo m cap, .int .i64 n] w fun e w' => ∃ v, e = .returned v ∧ WAt b0 T w.heap.size w' v (keepW n l) ∧ Below w.heap.size w w' := by
  have HW := Lib.hid hW
  have HT := Lib.hid hT
  clear hW hT
  go_enter Try.func57, Try.ntmps57
  go_wp2_with fail
  go_loopw [5, 10] (fun ov iv wr => ∃ i : Nat, iv = .int .i64 (i : Int) ∧ i ≤ m ∧ Hid (WAt b0 T w.heap.size wr ov (keepW n (l.take i))) ∧ Hid (Below w.heap.size w wr)) (fun _ iv _ => m - (intOf iv).toNat)
  case atStart => exact ⟨0, rfl, Nat.zero_le _, Lib.hid (WAt.nil _ _ _ _ HT.out (Nat.le_refl _)), Lib.hid (Below.refl _ _)⟩
  case round =>
    obtain ⟨i, rfl, hi, HO, HB⟩ := hrel
    by_cases hlt : i < m
    · have i1 : (i : Int) < (m : Int) := by omega
      have i0 : (0 : Int) ≤ (i : Int) := by omega
      obtain ⟨h1, h2, h3⟩ := HW.out
      obtain ⟨b, off, rfl, hFb, hc⟩ := h3.resolve_left (by omega)
      obtain ⟨⟨x, zs⟩, hx⟩ : ∃ p, l[i]? = some p := ⟨_, List.getElem?_eq_getElem (by omega)⟩
      obtain ⟨c0, hx64, db, doff, dc, c1, hdb, hA⟩ := hc i x zs hx
      have d0 := cell_later HB.out c0
      have d1 := cell_later HB.out c1
      have HA := Lib.hid (hA.later HB.out)
      have HDB := Lib.hid hdb
      have HX := Lib.hid (And.intro hx hx64)
      have HKP := Lib.hid (keepW_snoc (n := n) hx)
      clear h1 h2 h3 hFb hc hx hx64 c0 c1 hdb hA
      by_cases hlx : x < n
      · have hkl : (keepW n (l.take i)).length ≤ 1000 := by
          have h1 := keepW_le n (l.take i)
          rw [List.length_take] at h1
          omega
        rw [if_pos (by exact hlx)] at HKP
        obtain ⟨P, hP⟩ : ∃ P, keepW n (l.take i) = P := ⟨_, rfl⟩
        rw [hP] at HO HKP hkl
        obtain ⟨xs, ho, hxs⟩ := HO.out.2
        obtain ⟨la, lc, rfl⟩ := owns_shape_r ho
        have HO1 := Lib.hid (And.intro ho hxs)
        clear ho hxs hP
        obtain ⟨W2, hW2⟩ : ∃ W2, wr.alloc (.cells #[.int .i64 x, .slice (some ⟨db, doff, none⟩) 64 dc] 48) = W2 := ⟨_, rfl⟩
        have b2 : Below wr.heap.size wr W2 := by rw [← hW2]; exact (Below.refl _ _).alloc (Nat.le_refl _) _
        have hs2 : wr.heap.size + 1 = W2.heap.size := by rw [← hW2]; simp
        have hz := rc_new wr (.int .i64 x) (.slice (some ⟨db, doff, none⟩) 64 dc) 48
        rw [hW2] at hz
        obtain ⟨z0, z1, _⟩ := hz
        have HB2 := Lib.hid b2
        have HO2 := Lib.hid (owns_later_r HO1.out.1 b2)
        have HT2 : Hid (w.heap.size ≤ W2.heap.size) := Lib.hid (Nat.le_trans HO.out.1.2 b2.size)
        clear b2
        go_wp2_with (refine wp_append_at elemW rfl (.tmp 18) (.tmp 20) rfl w.heap.size P.length (.slice la P.length lc) xs rfl (owns_later_r HO2.out ((Below.refl _ _).alloc (Nat.le_refl _) _)) ⟨W2.heap.size, 0, none⟩ 1 1 [.int .i64 x, .slice (some ⟨db, doff, none⟩) 64 dc] rfl (by decide) rfl (news_f W2 [.int .i64 x, .slice (some ⟨db, doff, none⟩) 64 dc] _) (by intro u hu; simp only [List.mem_cons, List.mem_nil_iff, or_false] at hu; rcases hu with rfl | rfl <;> rfl) (by omega) (by have := HT2.out; simp; omega) ?_; intro v8 w8 hown8 hg8 hb8 _; have HO8 := Lib.hid (And.intro hown8 hg8); have HB8 := Lib.hid hb8; clear hown8 hg8 hb8)
        go_roundw
        case rel =>
          have b3 : Below wr.heap.size wr (W2.alloc (.cells #[.int .i64 x, .slice (some ⟨db, doff, none⟩) 64 dc] 48)) := HB2.out.alloc HB2.out.size _
          refine ⟨i + 1, by go_num, by omega, Lib.hid ?_, Lib.hid ((HB.out.trans (b3.mono HB.out.size)).trans HB8.out)⟩
          rw [HKP.out]
          exact WAt.join (ws := P) (ws2 := [(x, zs)]) ⟨HT.out, Nat.le_trans HO.out.1.2 b3.size⟩ (owns_later_r HO1.out.1 b3) (fun j a ys hj => by
            obtain ⟨c1, c2, d, o, c, c3, c4, c6⟩ := HO1.out.2 j a ys hj
            exact ⟨c1, c2, d, o, c, c3, c4, c6.later b3⟩) rfl (fun j a ys hj => by
            match j, hj with
            | 0, hj =>
              simp only [List.getElem?_cons_zero, Option.some.injEq, Prod.mk.injEq] at hj
              obtain ⟨rfl, rfl⟩ := hj
              exact ⟨rfl, HX.out.2, db, doff, dc, rfl, HDB.out, HA.out.later b3⟩
            | j + 1, hj => simp at hj) HO8.out.1 HO8.out.2
        case measure => simp [intOf]; omega
      · rw [if_neg (by exact hlx), List.append_nil] at HKP
        have b3 : Hid (Below wr.heap.size wr (wr.alloc (.cells #[.int .i64 x, .slice (some ⟨db, doff, none⟩) 64 dc] 48))) := Lib.hid ((Below.refl _ _).alloc (Nat.le_refl _) _)
        go_wp2_with fail
        go_roundw
        case rel => exact ⟨i + 1, by go_num, by omega, Lib.hid (by rw [HKP.out]; exact HO.out.later b3.out), Lib.hid (HB.out.trans (b3.out.mono HB.out.size))⟩
        case measure => simp [intOf]; omega
    · obtain rfl : i = m := by omega
      have hl : l.take i = l := List.take_of_length_le (by rw [HW.out.1]; exact Nat.le_refl _)
      rw [hl] at HO
      obtain ⟨la, lc, hv⟩ := owns_shape_r HO.out.2.choose_spec.1
      go_wp2_with fail
      go_ret
      exact ⟨_, rfl, HO.out, HB.out⟩
end Go.Proofs.Ytbnepjojfaeggaa
