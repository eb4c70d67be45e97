/-
  Proved here: what the landed entry answers when an entry is taken away (Remove).
  The conditions stand at each theorem.
-/
import Derived.Test.YtkpgefjbhimmgaaEntDel
import Derived.Test.YtkpgefjbhimmgaaEntRemW
namespace Go.Proofs.Ytkpgefjbhimmgaa
open Go.RowKit
set_option linter.unusedVariables false
set_option linter.unusedSimpArgs false

set_option maxHeartbeats 3200000 in
theorem eremove_any (ao : Option Addr) (len cap : Nat) (bs : List (List PEnt)) (n : ByteArray) (w : World) (hA : BlkArg w ao len cap bs) (hn : n.size ≤ 140737488351232) :
    Calls Try.prog 24 #[.slice ao len cap, .string n] w (RemDone w bs n) := by
  have cF := efind_any ao len cap bs n w hA hn
  unfold FindDone at cF
  unfold RemDone
  have HL : Hid (bs.length = len) := Lib.hid hA.1.1
  rcases remove_ways bs n with ⟨h1, hr⟩ | ⟨i, k, hfr, hfi, h96, h3, hr⟩
  · rw [hr]
    generalize findRes bs n = F at *
    obtain ⟨f1, f2, f3⟩ := F
    dsimp only at cF h1 ⊢
    have j1 : (f3 == 0) = false := by simpa using h1
    have j2 : (f3 != 0) = true := by simpa using h1
    clear hA hr h1
    go_enter Try.func24, Try.ntmps24
    go_wp2_with (go_at_call 20; refine cF.mono ?_; rintro e w2 ⟨rfl, hb2⟩; have HB2 := Lib.hid hb2; clear hb2)
    go_ret3
    exact ⟨_, rfl, BlkVal.nil _, HB2.out⟩
  · rw [hr]
    rw [hfr] at cF
    have CC : Hid (∀ W, Below w.heap.size w W → Calls Try.prog 37 #[.slice ao len cap] W (fun e w' => ∃ v, e = .returned v ∧ RowsE W.heap.size w' v bs ∧ Below W.heap.size W w')) := Lib.hid (fun W hW => cloned_any ao len cap bs W (hA.later hW) h3 (by have := hA.1.1; omega))
    have H3 := Lib.hid h3
    obtain ⟨x, hx, _, hil, _⟩ := findIn_some hfi
    obtain ⟨es, hes⟩ : ∃ es, bs[i]? = some es := ⟨_, List.getElem?_eq_getElem hil⟩
    rw [(getD_of hes).1] at hx
    have hk : k < es.length := (List.getElem?_eq_some_iff.1 hx).1
    have hes3 : es.length ≤ 3 := h3 es (List.mem_of_getElem? hes)
    have HES := Lib.hid hes
    have HRS := Lib.hid (removeAt_set (k := k) hes)
    have il : i < len := by rw [← HL.out]; exact hil
    have l96 : len ≤ 96 := by rw [← HL.out]; exact h96
    have i0 : 0 ≤ (i : Int) := by omega
    have i1 : (i : Int) < (len : Int) := by omega
    have k0 : 0 ≤ (k : Int) := by omega
    have k3 : (k : Int) ≤ 3 := by omega
    have HK := Lib.hid hk
    have HE3 := Lib.hid hes3
    clear hA hr hfr hfi h96 h3 hx hil hes hk hes3
    go_enter Try.func24, Try.ntmps24
    go_wp2_with (go_at_call 20; refine cF.mono ?_; rintro e w2 ⟨rfl, hb2⟩; have HB2 := Lib.hid hb2; clear hb2)
    go_at_call 37
    refine (CC.out _ HB2.out).mono ?_
    rintro e w3 ⟨v, rfl, hv, hb3⟩
    obtain ⟨va, vc, hvs⟩ := owns_shape hv.choose_spec.1
    subst hvs
    rw [HL.out]
    obtain ⟨xs, x1, x2, x3⟩ := hv
    rw [HL.out] at x1
    obtain ⟨og, vc', hvs, hogb, _⟩ := x1.form (by omega)
    simp only [Value.slice.injEq] at hvs
    obtain ⟨rfl, _, rfl⟩ := hvs
    obtain ⟨u, hu⟩ : ∃ u, xs[i]? = some u := ⟨xs[i]'(by have := x1.1; omega), List.getElem?_eq_getElem _⟩
    have X1 := Lib.hid x1
    have X2 := Lib.hid x2
    have X3 := Lib.hid x3
    have HB3 := Lib.hid hb3
    have HU := Lib.hid hu
    have HUE := Lib.hid (x2 i u es hu HES.out)
    have cD := del_any w2.heap.size u es k w3 HUE.out HK.out HE3.out
    obtain ⟨ua, uc, hud⟩ := owns_shape HUE.out.1
    rw [hud] at cD
    have oc : w3.cell? ⟨og, i, none⟩ = some (.slice ua es.length uc) := by
      have := x1.cells rfl i u hu
      rwa [Go.WideShapes.add_plain, Nat.zero_add, hud] at this
    have hf0 : w3.frozen? ⟨og, i, none⟩ = false := x1.frozenAt i
    have HUD := Lib.hid hud
    have HNE : Hid (some og ≠ (Value.slice ua es.length uc).ownBlock) := Lib.hid (by
      have := (owns_ne_k x1 HUE.out.1 (by decide)).resolve_left (by simp [Value.ownBlock])
      rw [hud] at this
      simpa [Value.ownBlock] using this)
    have HOG := Lib.hid hogb
    have HOC := Lib.hid oc
    have HOF := Lib.hid hf0
    have HOL : Hid (og < w3.heap.size) := Lib.hid (World.block_lt_of_cell? _ _ oc)
    generalize es.length = el at *
    clear x1 x2 x3 hu hud hf0 hogb hb3
    go_wp2_with (go_at_call 38; refine cD.mono ?_; rintro e w4 ⟨u', rfl, hu', hg⟩; obtain ⟨ua', uc', rfl⟩ := owns_shape hu'.1; have p1 : w4.cell? ⟨og, i, none⟩ = some (.slice ua el uc) := hg.cell HOC.out HNE.out; have p2 : w4.frozen? ⟨og, i, none⟩ = false := (World.frozen?_of_block (w := w3) (a := ⟨og, i, none⟩) (hg.block og HOL.out HNE.out)).trans HOF.out; have HU' := Lib.hid hu'; have HG := Lib.hid hg; clear hu' hg)
    go_ret3
    have hblk : ∀ b, (Value.slice ua el uc).ownBlock = some b → w2.heap.size ≤ b := fun b hb => by
      have h := owns_block_lt HUE.out.1
      rw [HUD.out, hb] at h
      rcases h with h | ⟨g, h, h2, _⟩
      · cases h
      · cases h; exact h2
    have hle : (es.eraseIdx k).length ≤ 100000 := by
      have h1 := List.length_eraseIdx_le es k
      have h2 := H3.out es (List.mem_of_getElem? HES.out)
      omega
    refine ⟨_, rfl, ?_, ?_⟩
    · show BlkVal _ _ (removeAt bs i k)
      rw [HRS.out]
      exact rows_done (base := w2.heap.size) (og := og) (i := i) (u := u) (es := es) (wq := w3) (by rw [HL.out]; exact X1.out) X2.out X3.out (Below.refl _ _) (by rw [HUD.out]; exact HG.out) HU.out HES.out HU'.out rfl (fun b hb => by have := H3.out b hb; omega) hle (by rw [HL.out]; omega)
    · have h1 := HB2.out.size
      have h2 := HOG.out
      exact ((HB2.out.trans (HB3.out.mono h1)).grown HG.out (Nat.le_trans h1 HB3.out.size) (fun b hb => Nat.le_trans h1 (hblk b hb))).setCell (by show w.heap.size ≤ og; omega) _

end Go.Proofs.Ytkpgefjbhimmgaa
