/-
  Proved here: what the document's own answer says when an entry is taken away (Remove).
  The conditions stand at each theorem.
-/
import Derived.Test.YtkpgefjbhimmgaaEntRefG
import Derived.Test.YtkpgefjbhimmgaaEntRemW
namespace Go.Proofs.Ytkpgefjbhimmgaa
open Go.RowKit
set_option linter.unusedVariables false
set_option linter.unusedSimpArgs false

theorem ent_take {w : World} {ao : Option Addr} {n c k : Nat} {es : List PEnt} (h : EntArg w ao n c es) (hk : k ≤ n) : EntArg w ao k c (es.take k) := by
  obtain ⟨⟨h1, h2, h3⟩, h4, h5⟩ := h
  refine ⟨⟨by rw [List.length_take]; omega, by omega, ?_⟩, fun e => ⟨by have := (h4 e).1; omega, (h4 e).2⟩, by omega⟩
  rcases h3 with h3 | ⟨b, off, he, hc⟩
  · exact Or.inl (by omega)
  · refine Or.inr ⟨b, off, he, fun j x hj => hc j x ?_⟩
    rw [List.getElem?_take] at hj
    split at hj
    · exact hj
    · cases hj

/-- The rest of a list, behind its first k ones. -/
theorem ent_drop {w : World} {b off n c k : Nat} {es : List PEnt} (h : EntArg w (some ⟨b, off, none⟩) n c es) (hk : k ≤ n) : EntArg w (if c = k then some ⟨b, off, none⟩ else some ⟨b, off + k * 2, none⟩) (n - k) (c - k) (es.drop k) := by
  obtain ⟨⟨h1, h2, h3⟩, h4, h5⟩ := h
  refine ⟨⟨by rw [List.length_drop]; omega, by omega, ?_⟩, fun e => ?_, by omega⟩
  rotate_left
  · by_cases hc : c = k
    · rw [if_pos hc] at e; cases e
    · rw [if_neg hc] at e; cases e
  by_cases hn : n - k = 0
  · exact Or.inl hn
  · obtain ⟨b', off', he, hc⟩ := h3.resolve_left (by omega)
    simp only [Option.some.injEq, Addr.mk.injEq, and_true] at he
    obtain ⟨rfl, rfl⟩ := he
    rw [if_neg (by omega)]
    refine Or.inr ⟨b, off + k * 2, rfl, fun j x hj => ?_⟩
    rw [List.getElem?_drop] at hj
    obtain ⟨c1, c2, c3, c4⟩ := hc (k + j) x hj
    rw [show off + 2 * (k + j) = off + k * 2 + 2 * j by omega] at c1 c3
    exact ⟨c1, c2, c3, c4⟩

theorem cellsE_append (a b : List PEnt) : cellsE (a ++ b) = cellsE a ++ cellsE b := by
  unfold cellsE
  rw [List.flatMap_append]

theorem own_erased {base k m : Nat} {w : World} {v : Value} {es : List PEnt} (h : w.ownsRow base 40 2 v (k + m) (cellsE (es.take k) ++ cellsE (es.drop (k + 1)))) (hl : es.length = k + 1 + m) (hs : smallE es) : OwnE base w v (es.eraseIdx k) := by
  have he : es.eraseIdx k = es.take k ++ es.drop (k + 1) := List.eraseIdx_eq_take_drop_succ es k
  refine ⟨?_, small_erase k hs⟩
  rw [he, cellsE_append, List.length_append, List.length_take, List.length_drop]
  rw [show min k es.length + (es.length - (k + 1)) = k + m by omega]
  exact h

set_option maxHeartbeats 3200000 in
theorem rremove_any (ao : Option Addr) (len cap : Nat) (bs : List (List PEnt)) (n : ByteArray) (w : World) (hA : BlkArg w ao len cap bs) (hn : n.size ≤ 140737488351232) :
    Calls Try.prog 25 #[.slice ao len cap, .string n] w (RemDone w bs n) := by
  have cF := rFind_any ao len cap bs n w hA hn
  unfold FindDone at cF
  unfold RemDone
  have HL : Hid (bs.length = len) := Lib.hid hA.1.1
  rcases remove_ways bs n with ⟨h1, hr⟩ | ⟨i, k, hfr, hfi, h96, h3, hr⟩
  · rw [hr]
    generalize findRes bs n = F at *
    obtain ⟨f1, f2, f3⟩ := F
    dsimp only at cF h1 ⊢
    have j1 : (f3 == 0) = false := by simpa using h1
    have j2 : (f3 != 0) = true := by simpa using h1
    clear hA hr h1
    go_enter Try.func25, Try.ntmps25
    go_wp2_with (go_at_call 21; refine cF.mono ?_; rintro e w2 ⟨rfl, hb2⟩; have HB2 := Lib.hid hb2; clear hb2)
    go_ret3
    exact ⟨_, rfl, BlkVal.nil _, HB2.out⟩
  · rw [hr]
    rw [hfr] at cF
    have CC : Hid (∀ W, Below w.heap.size w W → Calls Try.prog 36 #[.slice ao len cap] W (fun e w' => ∃ v, e = .returned v ∧ RowsE W.heap.size w' v bs ∧ Below W.heap.size W w')) := Lib.hid (fun W hW => rcopy_any ao len cap bs W (hA.later hW) h3 (by have := hA.1.1; omega))
    have H3 := Lib.hid h3
    obtain ⟨x, hx, _, hil, _⟩ := findIn_some hfi
    obtain ⟨es, hes⟩ : ∃ es, bs[i]? = some es := ⟨_, List.getElem?_eq_getElem hil⟩
    rw [(getD_of hes).1] at hx
    have hk : k < es.length := (List.getElem?_eq_some_iff.1 hx).1
    have hes3 : es.length ≤ 3 := h3 es (List.mem_of_getElem? hes)
    have HES := Lib.hid hes
    have HRS := Lib.hid (removeAt_set (k := k) hes)
    have il : i < len := by rw [← HL.out]; exact hil
    have l96 : len ≤ 96 := by rw [← HL.out]; exact h96
    have i0 : 0 ≤ (i : Int) := by omega
    have i1 : (i : Int) < (len : Int) := by omega
    have k0 : 0 ≤ (k : Int) := by omega
    have k3 : (k : Int) ≤ 3 := by omega
    obtain ⟨el, HEL⟩ : ∃ el, Hid (es.length = el) := ⟨_, Lib.hid rfl⟩
    rw [HEL.out] at hk hes3
    clear hA hr hfr hfi h96 h3 hx hil hes
    go_enter Try.func25, Try.ntmps25
    go_wp2_with (go_at_call 21; refine cF.mono ?_; rintro e w2 ⟨rfl, hb2⟩; have HB2 := Lib.hid hb2; clear hb2)
    go_at_call 36
    refine (CC.out _ HB2.out).mono ?_
    rintro e w3 ⟨v, rfl, hv, hb3⟩
    obtain ⟨va, vc, hvs⟩ := owns_shape hv.choose_spec.1
    subst hvs
    rw [HL.out]
    obtain ⟨xs, x1, x2, x3⟩ := hv
    rw [HL.out] at x1
    obtain ⟨og, vc', hvs, hogb, _⟩ := x1.form (by omega)
    simp only [Value.slice.injEq] at hvs
    obtain ⟨rfl, _, rfl⟩ := hvs
    obtain ⟨u, hu⟩ : ∃ u, xs[i]? = some u := ⟨xs[i]'(by have := x1.1; omega), List.getElem?_eq_getElem _⟩
    have X1 := Lib.hid x1
    have X2 := Lib.hid x2
    have X3 := Lib.hid x3
    have HB3 := Lib.hid hb3
    have HU := Lib.hid hu
    have HUE := Lib.hid (x2 i u es hu HES.out)
    obtain ⟨g, uc, hud, _, _⟩ := HUE.out.1.form (by rw [HEL.out]; omega)
    rw [HEL.out] at hud
    have HUD := Lib.hid hud
    obtain ⟨ga, gc, hge, hEA⟩ := HUE.out.val (by rw [HEL.out]; omega)
    rw [HEL.out, hud] at hge
    simp only [Value.slice.injEq, true_and] at hge
    obtain ⟨rfl, rfl⟩ := hge
    rw [HEL.out] at hEA
    have hcap : el ≤ uc := hEA.2.2
    have oc : w3.cell? ⟨og, i, none⟩ = some (.slice (some ⟨g, 0, none⟩) el uc) := by
      have := x1.cells rfl i u hu
      rwa [Go.WideShapes.add_plain, Nat.zero_add, hud] at this
    have hf0 : w3.frozen? ⟨og, i, none⟩ = false := x1.frozenAt i
    have HN : Hid ((w3.alloc (.cells #[] 40)).ownsRow w3.heap.size 40 2 (.slice (some ⟨w3.heap.size, 0, none⟩) 0 0) 0 []) := Lib.hid (World.ownsRow_made (base := w3.heap.size) (e := 40) (size := 2) w3 #[] 0 (Nat.le_refl _) (by decide) rfl)
    have HNB : Hid (Below w3.heap.size w3 (w3.alloc (.cells #[] 40))) := Lib.hid ((Below.refl _ _).alloc (Nat.le_refl _) _)
    have HE1 : Hid (EntArg (w3.alloc (.cells #[] 40)) (some ⟨g, 0, none⟩) k uc (es.take k)) := Lib.hid (ent_take (hEA.later HNB.out) (by omega))
    have HED : Hid (∀ W, Below w3.heap.size w3 W → EntArg W (if uc = k + 1 then some ⟨g, 0, none⟩ else some ⟨g, (k + 1) * 2, none⟩) (el - (k + 1)) (uc - (k + 1)) (es.drop (k + 1))) := Lib.hid (fun W hW => by
      have := ent_drop (k := k + 1) (hEA.later hW) (by omega)
      rwa [Nat.zero_add] at this)
    have oca := cell_later HNB.out oc
    have HOC := Lib.hid oc
    have HOG := Lib.hid hogb
    have HF0 := Lib.hid hf0
    have HOL : Hid (og < w3.heap.size) := Lib.hid (World.block_lt_of_cell? _ _ oc)
    have a1 : (k : Int) ≤ (uc : Int) := by omega
    have a2 : (k : Int) + 1 ≤ (el : Int) := by omega
    have a3 : (el : Int) ≤ (uc : Int) := by omega
    clear x1 x2 x3 hu hud hf0 hogb hb3 hEA
    by_cases huc : uc = k + 1
    · have hel : el = k + 1 := by omega
      subst hel
      subst huc
      have HE0 : Hid (∀ W : World, EntArg W (some ⟨g, 0, none⟩) 0 0 []) := Lib.hid (fun W => ⟨⟨rfl, by decide, Or.inl rfl⟩, (fun e => by cases e), Nat.le_refl _⟩)
      have HDN : Hid (es.drop (k + 1) = []) := Lib.hid (List.drop_eq_nil_of_le (by rw [HEL.out]; exact Nat.le_refl _))
      clear HED
      go_wp2_with (first | (refine wp_append_ents rfl (.tmp 24) (.tmp 30) rfl w3.heap.size 0 _ [] rfl HN.out (some ⟨g, 0, none⟩) k (k + 1) (es.take k) rfl HE1.out (by omega) (by simp) ?_; intro v4 w4 hown hg hb; rw [Nat.zero_add, List.nil_append] at hown; have HO4 := Lib.hid hown; have HB4 := Lib.hid (HNB.out.trans hb); have oc4 := cell_later HB4.out HOC.out; have HS4 := Lib.hid HB4.out.size; clear hown hg hb) | (refine wp_append_ents rfl (.tmp 34) (.tmp 41) rfl w3.heap.size k _ (cellsE (es.take k)) rfl HO4.out (some ⟨g, 0, none⟩) 0 0 [] rfl (HE0.out _) (by omega) HS4.out ?_; intro v5 w5 hown hg hb; obtain ⟨ua', uc', rfl⟩ := owns_shape hown; have HO5 := Lib.hid hown; have HB5 := Lib.hid (HB4.out.trans hb); have p1 := cell_later HB5.out HOC.out; have p2 := (HB5.out.frozen (p := ⟨og, i, none⟩) HOL.out).trans HF0.out; clear hown hg hb))
      go_ret3
      have hle : (es.eraseIdx k).length ≤ 100000 := by
        have h1 := List.length_eraseIdx_le es k
        have h2 := H3.out es (List.mem_of_getElem? HES.out)
        omega
      have hz23 := HB3.out.size
      refine ⟨_, rfl, ?_, ?_⟩
      · show BlkVal _ _ (removeAt bs i k)
        rw [HRS.out]
        exact rows_done (base := w2.heap.size) (og := og) (i := i) (u := u) (es := es) (wq := w5) (by rw [HL.out]; exact X1.out) X2.out X3.out HB5.out ⟨rfl, rfl, rfl, Nat.le_refl _, fun _ _ _ => rfl⟩ HU.out HES.out (OwnE.mono (own_erased (k := k) (m := 0) (by rw [HDN.out]; exact HO5.out) (by have := HEL.out; omega) HUE.out.2) hz23) rfl (fun b hb => by have := H3.out b hb; omega) hle (by rw [HL.out]; omega)
      · have h1 := HB2.out.size
        have h2 := HOG.out
        exact ((HB2.out.trans (HB3.out.mono h1)).trans (HB5.out.mono (by omega))).setCell (by show w.heap.size ≤ og; omega) _
    · have HE2 : Hid (∀ W, Below w3.heap.size w3 W → EntArg W (some ⟨g, (k + 1) * 2, none⟩) (el - (k + 1)) (uc - (k + 1)) (es.drop (k + 1))) := Lib.hid (fun W hW => by have := HED.out W hW; rwa [if_neg huc] at this)
      clear HED
      go_wp2_with (first | (refine wp_append_ents rfl (.tmp 24) (.tmp 30) rfl w3.heap.size 0 _ [] rfl HN.out (some ⟨g, 0, none⟩) k uc (es.take k) rfl HE1.out (by omega) (by simp) ?_; intro v4 w4 hown hg hb; rw [Nat.zero_add, List.nil_append] at hown; have HO4 := Lib.hid hown; have HB4 := Lib.hid (HNB.out.trans hb); have oc4 := cell_later HB4.out HOC.out; have HS4 := Lib.hid HB4.out.size; clear hown hg hb) | (refine wp_append_ents rfl (.tmp 34) (.tmp 41) rfl w3.heap.size k _ (cellsE (es.take k)) rfl HO4.out (some ⟨g, (k + 1) * 2, none⟩) (el - (k + 1)) (uc - (k + 1)) (es.drop (k + 1)) rfl (HE2.out _ HB4.out) (by omega) HS4.out ?_; intro v5 w5 hown hg hb; obtain ⟨ua', uc', rfl⟩ := owns_shape hown; have HO5 := Lib.hid hown; have HB5 := Lib.hid (HB4.out.trans hb); have p1 := cell_later HB5.out HOC.out; have p2 := (HB5.out.frozen (p := ⟨og, i, none⟩) HOL.out).trans HF0.out; clear hown hg hb))
      go_ret3
      have hle : (es.eraseIdx k).length ≤ 100000 := by
        have h1 := List.length_eraseIdx_le es k
        have h2 := H3.out es (List.mem_of_getElem? HES.out)
        omega
      have hz23 := HB3.out.size
      refine ⟨_, rfl, ?_, ?_⟩
      · show BlkVal _ _ (removeAt bs i k)
        rw [HRS.out]
        exact rows_done (base := w2.heap.size) (og := og) (i := i) (u := u) (es := es) (wq := w5) (by rw [HL.out]; exact X1.out) X2.out X3.out HB5.out ⟨rfl, rfl, rfl, Nat.le_refl _, fun _ _ _ => rfl⟩ HU.out HES.out (OwnE.mono (own_erased (k := k) (m := el - (k + 1)) HO5.out (by have := HEL.out; omega) HUE.out.2) hz23) rfl (fun b hb => by have := H3.out b hb; omega) hle (by rw [HL.out]; omega)
      · have h1 := HB2.out.size
        have h2 := HOG.out
        exact ((HB2.out.trans (HB3.out.mono h1)).trans (HB5.out.mono (by omega))).setCell (by show w.heap.size ≤ og; omega) _

end Go.Proofs.Ytkpgefjbhimmgaa
